/- Bytes of instructions. Conditions: the numbers fit. -/
import Derived.Test.YtdmjkgafnnjkkaaDoorCodeK2
import Derived.Test.YtdmjkgafnnjkkaaDoorPenK
namespace Go.Proofs.YtdmjkgafnnjkkaaDoor
open Go.RowKit

def uN (x : Int) : Nat := (x % 4294967296).toNat
theorem uN_lt (x : Int) : uN x < 4294967296 := by unfold uN; omega
theorem uN_wrap (x : Int) : IntKind.u32.wrap x = ((uN x : Nat) : Int) := by rw [IntKind.wrap_u32]; unfold uN; omega
theorem uN_mod (x : Int) : x % 4294967296 = ((uN x : Nat) : Int) := by unfold uN; omega
/-- What is written of an instruction. -/
def codeB (c : Cd) : List UInt8 := low c.op 1 ++ (low c.a 1 ++ (low c.b 1 ++ (low c.c 1 ++ (low (uN c.n) 4 ++ low c.m 4))))
def rowsB (l : List Cd) (k : Nat) : List UInt8 := (l.take k).flatMap codeB
def codesB (l : List Cd) : List UInt8 := num l.length ++ rowsB l l.length
theorem rowsB_next {l : List Cd} {k : Nat} (h : k < l.length) : rowsB l (k + 1) = rowsB l k ++ codeB l[k] := by
  unfold rowsB
  rw [take_nextK h, List.flatMap_append]
  simp
theorem codeB_len (c : Cd) : (codeB c).length = 12 := by simp [codeB]
theorem rowsB_len (l : List Cd) (k : Nat) (h : k ≤ l.length) : (rowsB l k).length = 12 * k := by
  induction k with
  | zero => simp [rowsB]
  | succ k ih => rw [rowsB_next (by omega), List.length_append, ih (by omega), codeB_len]; omega
theorem num_le (n : Nat) : (num n).length ≤ 10 := numF_length 10 n
theorem pen_undrew {g : Nat} {r r' : Option Nat} {a w : World} (h : PenStep g r r' a.drew w) : PenStep g r r' a w := ⟨h.1, h.2.os, h.2.tape, h.2.output, h.2.size, h.2.block⟩
theorem pen_drew {w : World} {g : Nat} {r : Option Nat} {l : List UInt8} (h : PenAt w g r l) : PenAt w.drew g r l := h
theorem pen_next {g N B : Nat} {r r' : Option Nat} {w w' : World} (hst : PenStep g r r' w w') (hr : ∀ j, r = some j → N ≤ j ∧ j ≠ B) (hN : N ≤ w.heap.size) (hB : B < w.heap.size) : ∀ j, r' = some j → N ≤ j ∧ j ≠ B := fun j hj => by
  rcases hst.1 with h | ⟨q, h, hq⟩
  · exact hr j (h ▸ hj)
  · have e := h.symm.trans hj
    injection e with e
    omega
theorem pen_not {g N B b : Nat} {r : Option Nat} (hr : ∀ j, r = some j → N ≤ j ∧ j ≠ B) (hg : b ≠ g) (hb : b < N ∨ b = B) : ¬(b = g ∨ r = some b) := fun h => by
  rcases h with h | h
  · exact hg h
  · have := hr b h; omega
theorem pen_below {g N B M : Nat} {r r' : Option Nat} {w w' : World} (hst : PenStep g r r' w w') (hr : ∀ j, r = some j → N ≤ j ∧ j ≠ B) (hM : M ≤ w.heap.size) (hg : M ≤ g) (hN : M ≤ N) : Below M w w' :=
  hst.2.below hM fun i hi h => by
    rcases h with h | h
    · omega
    · have := hr i h; omega
theorem sl_modK {w w' : World} {b : Nat} {A : Option Addr} {L : List Cd} (h : Sl w b A (kv L)) {S : Nat → Prop} (hm : Mod S w w') (hs : 0 < L.length → ¬ S b) : Sl w' b A (kv L) := by
  by_cases hl : L.length = 0
  · have : L = [] := List.eq_nil_of_length_eq_zero hl
    subst this; exact Sl.nil_ _ _ _
  · exact Sl.mod h hm (hs (by omega))
theorem own_lowK {w : World} {B B' n sz : Nat} {e : TypeId} {v : Value} {xs : List Value} (h : w.ownsRow B e sz v n xs) (hB : B' ≤ B) : w.ownsRow B' e sz v n xs := by
  refine ⟨h.1, ?_⟩
  rcases h.2 with h2 | ⟨g, cap, cur, rfl, hg, r⟩
  · exact .inl h2
  · exact .inr ⟨g, cap, cur, rfl, by omega, r⟩
theorem CBytes_out (A : Option Addr) (n c : Nat) (w : World) (hbig : 96 < n) :
    Calls Tryd.prog 18 #[.slice A n c] w fun e w' => e = .returned (.slice none 0 0) ∧ w' = w := by
  have e0 : decide ((n : Int) > 96) = true := by simp; omega
  go_enter Tryd.func18, Tryd.ntmps18
  go_wp2
  go_ret
  exact ⟨rfl, rfl⟩
set_option maxHeartbeats 16000000 in
set_option maxRecDepth 20000 in
theorem CBytes_in (A : Option Addr) (l : List Cd) (n c b : Nat) (w : World) (hs : Sl w b A (kv l)) (hn : l.length = n) (hL : n ≤ 96) (hok : okK l) :
    Calls Tryd.prog 18 #[.slice A n c] w fun e w' => ∃ v, e = .returned v ∧ Row w' w.heap.size v (codesB l) ∧ Below w.heap.size w w' := by
  subst hn
  have e0 : decide ((l.length : Int) > 96) = false := by simp; omega
  have hnw : IntKind.u64.wrap (l.length : Int) = (l.length : Int) := IntWalk.u64_in _ (by omega)
  have hlb : 0 < l.length → b < w.heap.size := fun h => Sl.lt hs (by intro h0; have h1 := congrArg List.length h0; rw [kv_length, List.length_nil] at h1; omega)
  have h9 := below_alloc1 w (.cells #[.slice none 0 0] 73)
  have hp : PenAt (w.alloc (.cells #[.slice none 0 0] 73)) w.heap.size none [] := ⟨.slice none 0 0, heap_alloc_new w _, Row.nil_ _ _, rfl⟩
  have hs := Sl.ext hs h9
  have hb := h9
  have hnl := num_le l.length
  have hzp : w.heap.size < (w.alloc (.cells #[.slice none 0 0] 73)).heap.size := by simp
  have hrr : ∀ j, (none : Option Nat) = some j → w.heap.size ≤ j ∧ j ≠ w.heap.size := fun j hj => by cases hj
  clear h9
  go_enter Tryd.func18, Tryd.ntmps18
  go_wp2_with fail
  (with_reducible refine (PenNum_calls _ none [] l.length _ hp (by omega) (by simp)).mono ?_)
  rintro e w2 ⟨rfl, r2, hp, hst⟩
  have hs9 := hst.2.size
  have hs := sl_modK hs hst.2 (fun h0 => pen_not hrr (by have := hlb h0; omega) (.inl (hlb h0)))
  have hb := hb.trans (pen_below hst hrr (by have := hb.size; omega) (by omega) (by omega))
  have hrr := pen_next hst hrr (by omega) (by omega)
  have hzp := Nat.lt_of_lt_of_le hzp hs9
  clear hst hs9
  rw [List.nil_append] at hp
  have hp : PenAt w2 w.heap.size r2 (num l.length ++ rowsB l 0) := hp.cast (by simp [rowsB])
  obtain ⟨NL, hNL⟩ : ∃ N, N = num l.length := ⟨_, rfl⟩
  have hcod : codesB l = NL ++ rowsB l l.length := by rw [hNL]; rfl
  rw [← hNL] at hp hnl
  have HCOD := Lib.hid hcod
  clear hNL hcod
  go_wp2_with fail
  have hs9 := hs
  repeat clear hs
  have hp9 := hp
  repeat clear hp
  have hrr9 := hrr
  repeat clear hrr
  have hzp9 := hzp
  repeat clear hzp
  have hb9 := hb
  repeat clear hb
  go_loopw [15] (fun i wr => ∃ (k : Nat) (r : Option Nat), k ≤ l.length ∧ i = .int .i64 k ∧ Sl wr b A (kv l) ∧ PenAt wr w.heap.size r (NL ++ rowsB l k) ∧ (∀ j, r = some j → w.heap.size ≤ j ∧ True) ∧ w.heap.size < wr.heap.size ∧ Below w.heap.size w wr) (fun i _ => l.length - (intOf i).toNat)
  case atStart => exact ⟨0, r2, Nat.zero_le _, rfl, hs9, hp9, fun j hj => ⟨(hrr9 j hj).1, trivial⟩, hzp9, hb9⟩
  case round =>
    clear hs9 hp9 hrr9 hzp9 hb9
    obtain ⟨k, r, hk, rfl, hs, hp, hrr, hzp, hb⟩ := hrel
    by_cases hlt : k < l.length
    · have hl1 := hlb (by omega)
      have hrl := rowsB_len l k (by omega)
      have hsn := rowsB_next hlt
      have hck := hok l[k] (List.getElem_mem hlt)
      obtain ⟨off, rfl, c0, c1, c2, c3, c4, c5⟩ := sl_code hs hlt
      obtain ⟨x, hx⟩ : ∃ x, x = l[k] := ⟨_, rfl⟩
      rw [← hx] at hck c0 c1 c2 c3 c4 c5 hsn
      clear hx
      obtain ⟨op, a, b', cc, n, m⟩ := x
      obtain ⟨k0, k1, k2, k3, k4, k5, k6⟩ := hck
      simp only at c0 c1 c2 c3 c4 c5 k0 k1 k2 k3 k4 k5 k6
      have hu1 := uN_wrap n
      have hu2 := uN_mod n
      have hul := uN_lt n
      have hcb : codeB ⟨op, a, b', cc, n, m⟩ = low op 1 ++ (low a 1 ++ (low b' 1 ++ (low cc 1 ++ (low (uN n) 4 ++ low m 4)))) := rfl
      obtain ⟨u, hu⟩ : ∃ u, u = uN n := ⟨_, rfl⟩
      rw [← hu] at hu1 hu2 hul hcb
      rw [hcb] at hsn
      have HS := Lib.hid hsn
      have HRL := Lib.hid hrl
      have ej : (k : Int) < (l.length : Int) := by omega
      clear hu hcb hsn hrl
      have kx := heap_alloc_new wr (.cells #[.int .u8 (op : Int), .int .u8 (a : Int), .int .u8 (b' : Int), .int .u8 (cc : Int), .int .i32 n, .int .u32 (m : Int)] 33)
      have hp0 := hp
      have h9 := below_alloc1 wr (.cells #[.int .u8 (op : Int), .int .u8 (a : Int), .int .u8 (b' : Int), .int .u8 (cc : Int), .int .i32 n, .int .u32 (m : Int)] 33)
      have hp := PenAt.ext hp h9
      have hs := Sl.ext hs h9
      have hb := hb.trans (h9.mono hb.size)
      have hrr : ∀ j, r = some j → w.heap.size ≤ j ∧ j ≠ wr.heap.size := fun j hj => ⟨(hrr j hj).1, by have := PenAt.row_lt hp0 j hj; omega⟩
      have hzw := hzp
      have hzp : wr.heap.size < (wr.alloc (.cells #[.int .u8 (op : Int), .int .u8 (a : Int), .int .u8 (b' : Int), .int .u8 (cc : Int), .int .i32 n, .int .u32 (m : Int)] 33)).heap.size := by simp
      clear hp0 h9
      go_wp2_with fail
      clear c0 c1 c2 c3 c4 c5
      refine wp_region_held_drew (S := fun w' => w'.heap[wr.heap.size]? = some (.cells #[.int .u8 (op : Int), .int .u8 (a : Int), .int .u8 (b' : Int), .int .u8 (cc : Int), .int .i32 n, .int .u32 (m : Int)] 33 (0, 0))) (by kernel_rfl) ?_ (fun hHeld => ?_)
      · exact kx
      refine wpAnyH_take (i := 0) (v := ?zv0) (by simp only [List.getElem?_toArray, List.getElem?_cons_zero]; rfl) (by kernel_rfl) (by kernel_rfl) (by kernel_rfl) (by exact fun _ _ _ h => h) (Or.inl ⟨by rfl, ?zy0⟩) hHeld ?_
      case zy0 => (intro w hSw; (try dsimp only at hSw); have hy0 := (cell_of_row _ _ 0 _ _ _ hSw).trans (show _ = some _ from rfl); have hy1 := (cell_of_row _ _ 1 _ _ _ hSw).trans (show _ = some _ from rfl); have hy2 := (cell_of_row _ _ 2 _ _ _ hSw).trans (show _ = some _ from rfl); have hy3 := (cell_of_row _ _ 3 _ _ _ hSw).trans (show _ = some _ from rfl); have hy4 := (cell_of_row _ _ 4 _ _ _ hSw).trans (show _ = some _ from rfl); have hy5 := (cell_of_row _ _ 5 _ _ _ hSw).trans (show _ = some _ from rfl); clear hSw; go_simp; try (with_reducible rfl))
      try simp only [Act.put, List.setIfInBounds_toArray, List.set_cons_zero, List.set_cons_succ]
      refine wpAnyH_take (i := 1) (v := ?zv1) (by simp only [List.getElem?_toArray, List.getElem?_cons_succ, List.getElem?_cons_zero]; rfl) (by kernel_rfl) (by kernel_rfl) (by kernel_rfl) (by exact fun _ _ _ h => h) (Or.inl ⟨by rfl, ?zy1⟩) hHeld ?_
      case zy1 => (intro w hSw; (try dsimp only at hSw); have hy0 := (cell_of_row _ _ 0 _ _ _ hSw).trans (show _ = some _ from rfl); have hy1 := (cell_of_row _ _ 1 _ _ _ hSw).trans (show _ = some _ from rfl); have hy2 := (cell_of_row _ _ 2 _ _ _ hSw).trans (show _ = some _ from rfl); have hy3 := (cell_of_row _ _ 3 _ _ _ hSw).trans (show _ = some _ from rfl); have hy4 := (cell_of_row _ _ 4 _ _ _ hSw).trans (show _ = some _ from rfl); have hy5 := (cell_of_row _ _ 5 _ _ _ hSw).trans (show _ = some _ from rfl); clear hSw; go_simp; try (with_reducible rfl))
      try simp only [Act.put, List.setIfInBounds_toArray, List.set_cons_zero, List.set_cons_succ]
      refine wpAnyH_take (i := 3) (v := ?zv3) (by simp only [List.getElem?_toArray, List.getElem?_cons_succ, List.getElem?_cons_zero]; rfl) (by kernel_rfl) (by kernel_rfl) (by kernel_rfl) (by exact fun _ _ _ h => h) (Or.inl ⟨by rfl, ?zy3⟩) hHeld ?_
      case zy3 => (intro w hSw; (try dsimp only at hSw); have hy0 := (cell_of_row _ _ 0 _ _ _ hSw).trans (show _ = some _ from rfl); have hy1 := (cell_of_row _ _ 1 _ _ _ hSw).trans (show _ = some _ from rfl); have hy2 := (cell_of_row _ _ 2 _ _ _ hSw).trans (show _ = some _ from rfl); have hy3 := (cell_of_row _ _ 3 _ _ _ hSw).trans (show _ = some _ from rfl); have hy4 := (cell_of_row _ _ 4 _ _ _ hSw).trans (show _ = some _ from rfl); have hy5 := (cell_of_row _ _ 5 _ _ _ hSw).trans (show _ = some _ from rfl); clear hSw; go_simp; try (with_reducible rfl))
      try simp only [Act.put, List.setIfInBounds_toArray, List.set_cons_zero, List.set_cons_succ]
      refine wpAnyH_take (i := 4) (v := ?zv4) (by simp only [List.getElem?_toArray, List.getElem?_cons_succ, List.getElem?_cons_zero]; rfl) (by kernel_rfl) (by kernel_rfl) (by kernel_rfl) (by exact fun _ _ _ h => h) (Or.inl ⟨by rfl, ?zy4⟩) hHeld ?_
      case zy4 => (intro w hSw; (try dsimp only at hSw); have hy0 := (cell_of_row _ _ 0 _ _ _ hSw).trans (show _ = some _ from rfl); have hy1 := (cell_of_row _ _ 1 _ _ _ hSw).trans (show _ = some _ from rfl); have hy2 := (cell_of_row _ _ 2 _ _ _ hSw).trans (show _ = some _ from rfl); have hy3 := (cell_of_row _ _ 3 _ _ _ hSw).trans (show _ = some _ from rfl); have hy4 := (cell_of_row _ _ 4 _ _ _ hSw).trans (show _ = some _ from rfl); have hy5 := (cell_of_row _ _ 5 _ _ _ hSw).trans (show _ = some _ from rfl); clear hSw; go_simp; try (with_reducible rfl))
      try simp only [Act.put, List.setIfInBounds_toArray, List.set_cons_zero, List.set_cons_succ]
      refine wpAnyH_take (i := 6) (v := ?zv6) (by simp only [List.getElem?_toArray, List.getElem?_cons_succ, List.getElem?_cons_zero]; rfl) (by kernel_rfl) (by kernel_rfl) (by kernel_rfl) (by exact fun _ _ _ h => h) (Or.inl ⟨by rfl, ?zy6⟩) hHeld ?_
      case zy6 => (intro w hSw; (try dsimp only at hSw); have hy0 := (cell_of_row _ _ 0 _ _ _ hSw).trans (show _ = some _ from rfl); have hy1 := (cell_of_row _ _ 1 _ _ _ hSw).trans (show _ = some _ from rfl); have hy2 := (cell_of_row _ _ 2 _ _ _ hSw).trans (show _ = some _ from rfl); have hy3 := (cell_of_row _ _ 3 _ _ _ hSw).trans (show _ = some _ from rfl); have hy4 := (cell_of_row _ _ 4 _ _ _ hSw).trans (show _ = some _ from rfl); have hy5 := (cell_of_row _ _ 5 _ _ _ hSw).trans (show _ = some _ from rfl); clear hSw; go_simp; try (with_reducible rfl))
      try simp only [Act.put, List.setIfInBounds_toArray, List.set_cons_zero, List.set_cons_succ]
      refine wpAnyH_take (i := 7) (v := ?zv7) (by simp only [List.getElem?_toArray, List.getElem?_cons_succ, List.getElem?_cons_zero]; rfl) (by kernel_rfl) (by kernel_rfl) (by kernel_rfl) (by exact fun _ _ _ h => h) (Or.inl ⟨by rfl, ?zy7⟩) hHeld ?_
      case zy7 => (intro w hSw; (try dsimp only at hSw); have hy0 := (cell_of_row _ _ 0 _ _ _ hSw).trans (show _ = some _ from rfl); have hy1 := (cell_of_row _ _ 1 _ _ _ hSw).trans (show _ = some _ from rfl); have hy2 := (cell_of_row _ _ 2 _ _ _ hSw).trans (show _ = some _ from rfl); have hy3 := (cell_of_row _ _ 3 _ _ _ hSw).trans (show _ = some _ from rfl); have hy4 := (cell_of_row _ _ 4 _ _ _ hSw).trans (show _ = some _ from rfl); have hy5 := (cell_of_row _ _ 5 _ _ _ hSw).trans (show _ = some _ from rfl); clear hSw; go_simp; try (with_reducible rfl))
      try simp only [Act.put, List.setIfInBounds_toArray, List.set_cons_zero, List.set_cons_succ]
      refine wpAnyH_take (i := 9) (v := ?zv9) (by simp only [List.getElem?_toArray, List.getElem?_cons_succ, List.getElem?_cons_zero]; rfl) (by kernel_rfl) (by kernel_rfl) (by kernel_rfl) (by exact fun _ _ _ h => h) (Or.inl ⟨by rfl, ?zy9⟩) hHeld ?_
      case zy9 => (intro w hSw; (try dsimp only at hSw); have hy0 := (cell_of_row _ _ 0 _ _ _ hSw).trans (show _ = some _ from rfl); have hy1 := (cell_of_row _ _ 1 _ _ _ hSw).trans (show _ = some _ from rfl); have hy2 := (cell_of_row _ _ 2 _ _ _ hSw).trans (show _ = some _ from rfl); have hy3 := (cell_of_row _ _ 3 _ _ _ hSw).trans (show _ = some _ from rfl); have hy4 := (cell_of_row _ _ 4 _ _ _ hSw).trans (show _ = some _ from rfl); have hy5 := (cell_of_row _ _ 5 _ _ _ hSw).trans (show _ = some _ from rfl); clear hSw; go_simp; try (with_reducible rfl))
      try simp only [Act.put, List.setIfInBounds_toArray, List.set_cons_zero, List.set_cons_succ]
      refine wpAnyH_take (i := 10) (v := ?zv10) (by simp only [List.getElem?_toArray, List.getElem?_cons_succ, List.getElem?_cons_zero]; rfl) (by kernel_rfl) (by kernel_rfl) (by kernel_rfl) (by exact fun _ _ _ h => h) (Or.inl ⟨by rfl, ?zy10⟩) hHeld ?_
      case zy10 => (intro w hSw; (try dsimp only at hSw); have hy0 := (cell_of_row _ _ 0 _ _ _ hSw).trans (show _ = some _ from rfl); have hy1 := (cell_of_row _ _ 1 _ _ _ hSw).trans (show _ = some _ from rfl); have hy2 := (cell_of_row _ _ 2 _ _ _ hSw).trans (show _ = some _ from rfl); have hy3 := (cell_of_row _ _ 3 _ _ _ hSw).trans (show _ = some _ from rfl); have hy4 := (cell_of_row _ _ 4 _ _ _ hSw).trans (show _ = some _ from rfl); have hy5 := (cell_of_row _ _ 5 _ _ _ hSw).trans (show _ = some _ from rfl); clear hSw; go_simp; try (with_reducible rfl))
      try simp only [Act.put, List.setIfInBounds_toArray, List.set_cons_zero, List.set_cons_succ]
      refine wpAnyH_take (i := 12) (v := ?zv12) (by simp only [List.getElem?_toArray, List.getElem?_cons_succ, List.getElem?_cons_zero]; rfl) (by kernel_rfl) (by kernel_rfl) (by kernel_rfl) (by exact fun _ _ _ h => h) (Or.inl ⟨by rfl, ?zy12⟩) hHeld ?_
      case zy12 => (intro w hSw; (try dsimp only at hSw); have hy0 := (cell_of_row _ _ 0 _ _ _ hSw).trans (show _ = some _ from rfl); have hy1 := (cell_of_row _ _ 1 _ _ _ hSw).trans (show _ = some _ from rfl); have hy2 := (cell_of_row _ _ 2 _ _ _ hSw).trans (show _ = some _ from rfl); have hy3 := (cell_of_row _ _ 3 _ _ _ hSw).trans (show _ = some _ from rfl); have hy4 := (cell_of_row _ _ 4 _ _ _ hSw).trans (show _ = some _ from rfl); have hy5 := (cell_of_row _ _ 5 _ _ _ hSw).trans (show _ = some _ from rfl); clear hSw; go_simp; try (with_reducible rfl))
      try simp only [Act.put, List.setIfInBounds_toArray, List.set_cons_zero, List.set_cons_succ]
      refine wpAnyH_take (i := 13) (v := ?zv13) (by simp only [List.getElem?_toArray, List.getElem?_cons_succ, List.getElem?_cons_zero]; rfl) (by kernel_rfl) (by kernel_rfl) (by kernel_rfl) (by exact fun _ _ _ h => h) (Or.inl ⟨by rfl, ?zy13⟩) hHeld ?_
      case zy13 => (intro w hSw; (try dsimp only at hSw); have hy0 := (cell_of_row _ _ 0 _ _ _ hSw).trans (show _ = some _ from rfl); have hy1 := (cell_of_row _ _ 1 _ _ _ hSw).trans (show _ = some _ from rfl); have hy2 := (cell_of_row _ _ 2 _ _ _ hSw).trans (show _ = some _ from rfl); have hy3 := (cell_of_row _ _ 3 _ _ _ hSw).trans (show _ = some _ from rfl); have hy4 := (cell_of_row _ _ 4 _ _ _ hSw).trans (show _ = some _ from rfl); have hy5 := (cell_of_row _ _ 5 _ _ _ hSw).trans (show _ = some _ from rfl); clear hSw; go_simp; try (with_reducible rfl))
      try simp only [Act.put, List.setIfInBounds_toArray, List.set_cons_zero, List.set_cons_succ]
      refine wpAnyH_take (i := 14) (v := ?zv14) (by simp only [List.getElem?_toArray, List.getElem?_cons_succ, List.getElem?_cons_zero]; rfl) (by kernel_rfl) (by kernel_rfl) (by kernel_rfl) (by exact fun _ _ _ h => h) (Or.inl ⟨by rfl, ?zy14⟩) hHeld ?_
      case zy14 => (intro w hSw; (try dsimp only at hSw); have hy0 := (cell_of_row _ _ 0 _ _ _ hSw).trans (show _ = some _ from rfl); have hy1 := (cell_of_row _ _ 1 _ _ _ hSw).trans (show _ = some _ from rfl); have hy2 := (cell_of_row _ _ 2 _ _ _ hSw).trans (show _ = some _ from rfl); have hy3 := (cell_of_row _ _ 3 _ _ _ hSw).trans (show _ = some _ from rfl); have hy4 := (cell_of_row _ _ 4 _ _ _ hSw).trans (show _ = some _ from rfl); have hy5 := (cell_of_row _ _ 5 _ _ _ hSw).trans (show _ = some _ from rfl); clear hSw; go_simp; try (with_reducible rfl))
      try simp only [Act.put, List.setIfInBounds_toArray, List.set_cons_zero, List.set_cons_succ]
      refine wpAnyH_take (i := 16) (v := ?zv16) (by simp only [List.getElem?_toArray, List.getElem?_cons_succ, List.getElem?_cons_zero]; rfl) (by kernel_rfl) (by kernel_rfl) (by kernel_rfl) (by exact fun _ _ _ h => h) (Or.inl ⟨by rfl, ?zy16⟩) hHeld ?_
      case zy16 => (intro w hSw; (try dsimp only at hSw); have hy0 := (cell_of_row _ _ 0 _ _ _ hSw).trans (show _ = some _ from rfl); have hy1 := (cell_of_row _ _ 1 _ _ _ hSw).trans (show _ = some _ from rfl); have hy2 := (cell_of_row _ _ 2 _ _ _ hSw).trans (show _ = some _ from rfl); have hy3 := (cell_of_row _ _ 3 _ _ _ hSw).trans (show _ = some _ from rfl); have hy4 := (cell_of_row _ _ 4 _ _ _ hSw).trans (show _ = some _ from rfl); have hy5 := (cell_of_row _ _ 5 _ _ _ hSw).trans (show _ = some _ from rfl); clear hSw; go_simp; try (with_reducible rfl))
      try simp only [Act.put, List.setIfInBounds_toArray, List.set_cons_zero, List.set_cons_succ]
      refine wpAnyH_take (i := 17) (v := ?zv17) (by simp only [List.getElem?_toArray, List.getElem?_cons_succ, List.getElem?_cons_zero]; rfl) (by kernel_rfl) (by kernel_rfl) (by kernel_rfl) (by exact fun _ _ _ h => h) (Or.inl ⟨by rfl, ?zy17⟩) hHeld ?_
      case zy17 => (intro w hSw; (try dsimp only at hSw); have hy0 := (cell_of_row _ _ 0 _ _ _ hSw).trans (show _ = some _ from rfl); have hy1 := (cell_of_row _ _ 1 _ _ _ hSw).trans (show _ = some _ from rfl); have hy2 := (cell_of_row _ _ 2 _ _ _ hSw).trans (show _ = some _ from rfl); have hy3 := (cell_of_row _ _ 3 _ _ _ hSw).trans (show _ = some _ from rfl); have hy4 := (cell_of_row _ _ 4 _ _ _ hSw).trans (show _ = some _ from rfl); have hy5 := (cell_of_row _ _ 5 _ _ _ hSw).trans (show _ = some _ from rfl); clear hSw; go_simp; try (with_reducible rfl))
      try simp only [Act.put, List.setIfInBounds_toArray, List.set_cons_zero, List.set_cons_succ]
      refine wpAnyH_ready (rs := [2]) (by kernel_rfl) (by simp) ?_
      refine AllReadyH.cons (by simp only [List.getElem?_toArray, List.getElem?_cons_succ, List.getElem?_cons_zero]; rfl) (fun KK hKK => ?_) AllReadyH.nil
      go_simp
      have hp := pen_drew hp
      (with_reducible refine (PenByte_calls _ r _ op _ hp (by omega) (by have := HRL.out; simp; omega)).mono ?_)
      rintro e w3 ⟨rfl, r3, hp, hst⟩
      have hst := pen_undrew hst
      have hs9 := hst.2.size
      have hs := sl_modK hs hst.2 (fun _ => pen_not hrr (by omega) (.inl hl1))
      have kx := (hst.2.block _ (Array.getElem?_eq_some_iff.1 kx).1 (pen_not hrr (by omega) (.inr rfl))).trans kx
      have hb := hb.trans (pen_below hst hrr (by have := hb.size; omega) (by omega) (by omega))
      have hrr := pen_next hst hrr (by omega) (by omega)
      have hzp := Nat.lt_of_lt_of_le hzp hs9
      clear hst hs9
      go_wp2_with fail
      refine hKK.out _ _ ?_ (fun hHeld => ?_)
      · exact kx
      clear hKK KK
      try simp only [Act.put, List.setIfInBounds_toArray, List.set_cons_zero, List.set_cons_succ]
      refine wpAnyH_ready (rs := [5]) (by kernel_rfl) (by simp) ?_
      refine AllReadyH.cons (by simp only [List.getElem?_toArray, List.getElem?_cons_succ, List.getElem?_cons_zero]; rfl) (fun KK hKK => ?_) AllReadyH.nil
      go_simp
      (with_reducible refine (PenByte_calls _ r3 _ a _ hp (by omega) (by have := HRL.out; simp; omega)).mono ?_)
      rintro e w4 ⟨rfl, r4, hp, hst⟩
      have hs9 := hst.2.size
      have hs := sl_modK hs hst.2 (fun _ => pen_not hrr (by omega) (.inl hl1))
      have kx := (hst.2.block _ (Array.getElem?_eq_some_iff.1 kx).1 (pen_not hrr (by omega) (.inr rfl))).trans kx
      have hb := hb.trans (pen_below hst hrr (by have := hb.size; omega) (by omega) (by omega))
      have hrr := pen_next hst hrr (by omega) (by omega)
      have hzp := Nat.lt_of_lt_of_le hzp hs9
      clear hst hs9
      go_wp2_with fail
      refine hKK.out _ _ ?_ (fun hHeld => ?_)
      · exact kx
      clear hKK KK
      try simp only [Act.put, List.setIfInBounds_toArray, List.set_cons_zero, List.set_cons_succ]
      refine wpAnyH_ready (rs := [8]) (by kernel_rfl) (by simp) ?_
      refine AllReadyH.cons (by simp only [List.getElem?_toArray, List.getElem?_cons_succ, List.getElem?_cons_zero]; rfl) (fun KK hKK => ?_) AllReadyH.nil
      go_simp
      (with_reducible refine (PenByte_calls _ r4 _ b' _ hp (by omega) (by have := HRL.out; simp; omega)).mono ?_)
      rintro e w5 ⟨rfl, r5, hp, hst⟩
      have hs9 := hst.2.size
      have hs := sl_modK hs hst.2 (fun _ => pen_not hrr (by omega) (.inl hl1))
      have kx := (hst.2.block _ (Array.getElem?_eq_some_iff.1 kx).1 (pen_not hrr (by omega) (.inr rfl))).trans kx
      have hb := hb.trans (pen_below hst hrr (by have := hb.size; omega) (by omega) (by omega))
      have hrr := pen_next hst hrr (by omega) (by omega)
      have hzp := Nat.lt_of_lt_of_le hzp hs9
      clear hst hs9
      go_wp2_with fail
      refine hKK.out _ _ ?_ (fun hHeld => ?_)
      · exact kx
      clear hKK KK
      try simp only [Act.put, List.setIfInBounds_toArray, List.set_cons_zero, List.set_cons_succ]
      refine wpAnyH_ready (rs := [11]) (by kernel_rfl) (by simp) ?_
      refine AllReadyH.cons (by simp only [List.getElem?_toArray, List.getElem?_cons_succ, List.getElem?_cons_zero]; rfl) (fun KK hKK => ?_) AllReadyH.nil
      go_simp
      (with_reducible refine (PenByte_calls _ r5 _ cc _ hp (by omega) (by have := HRL.out; simp; omega)).mono ?_)
      rintro e w6 ⟨rfl, r6, hp, hst⟩
      have hs9 := hst.2.size
      have hs := sl_modK hs hst.2 (fun _ => pen_not hrr (by omega) (.inl hl1))
      have kx := (hst.2.block _ (Array.getElem?_eq_some_iff.1 kx).1 (pen_not hrr (by omega) (.inr rfl))).trans kx
      have hb := hb.trans (pen_below hst hrr (by have := hb.size; omega) (by omega) (by omega))
      have hrr := pen_next hst hrr (by omega) (by omega)
      have hzp := Nat.lt_of_lt_of_le hzp hs9
      clear hst hs9
      go_wp2_with fail
      refine hKK.out _ _ ?_ (fun hHeld => ?_)
      · exact kx
      clear hKK KK
      try simp only [Act.put, List.setIfInBounds_toArray, List.set_cons_zero, List.set_cons_succ]
      refine wpAnyH_ready (rs := [15]) (by kernel_rfl) (by simp) ?_
      refine AllReadyH.cons (by simp only [List.getElem?_toArray, List.getElem?_cons_succ, List.getElem?_cons_zero]; rfl) (fun KK hKK => ?_) AllReadyH.nil
      go_simp
      (with_reducible refine (PenWord_calls _ r6 _ u _ hp hul (by have := HRL.out; simp; omega)).mono ?_)
      rintro e w7 ⟨rfl, r7, hp, hst⟩
      have hs9 := hst.2.size
      have hs := sl_modK hs hst.2 (fun _ => pen_not hrr (by omega) (.inl hl1))
      have kx := (hst.2.block _ (Array.getElem?_eq_some_iff.1 kx).1 (pen_not hrr (by omega) (.inr rfl))).trans kx
      have hb := hb.trans (pen_below hst hrr (by have := hb.size; omega) (by omega) (by omega))
      have hrr := pen_next hst hrr (by omega) (by omega)
      have hzp := Nat.lt_of_lt_of_le hzp hs9
      clear hst hs9
      go_wp2_with fail
      refine hKK.out _ _ ?_ (fun hHeld => ?_)
      · exact kx
      clear hKK KK
      try simp only [Act.put, List.setIfInBounds_toArray, List.set_cons_zero, List.set_cons_succ]
      refine wpAnyH_ready (rs := [18]) (by kernel_rfl) (by simp) ?_
      refine AllReadyH.cons (by simp only [List.getElem?_toArray, List.getElem?_cons_succ, List.getElem?_cons_zero]; rfl) (fun KK hKK => ?_) AllReadyH.nil
      go_simp
      (with_reducible refine (PenWord_calls _ r7 _ m _ hp (by omega) (by have := HRL.out; simp; omega)).mono ?_)
      rintro e w8 ⟨rfl, r8, hp, hst⟩
      have hs9 := hst.2.size
      have hs := sl_modK hs hst.2 (fun _ => pen_not hrr (by omega) (.inl hl1))
      have kx := (hst.2.block _ (Array.getElem?_eq_some_iff.1 kx).1 (pen_not hrr (by omega) (.inr rfl))).trans kx
      have hb := hb.trans (pen_below hst hrr (by have := hb.size; omega) (by omega) (by omega))
      have hrr := pen_next hst hrr (by omega) (by omega)
      have hzp := Nat.lt_of_lt_of_le hzp hs9
      clear hst hs9
      go_wp2_with fail
      refine hKK.out _ _ ?_ (fun hHeld => ?_)
      · exact kx
      clear hKK KK
      try simp only [Act.put, List.setIfInBounds_toArray, List.set_cons_zero, List.set_cons_succ]
      refine wpAnyH_done (by kernel_rfl) ?_ _
      have hp : PenAt w8 w.heap.size r8 (NL ++ rowsB l (k + 1)) := hp.cast (by rw [HS.out]; simp only [List.append_assoc])
      have hrr : ∀ j, r8 = some j → w.heap.size ≤ j ∧ True := fun j hj => ⟨(hrr j hj).1, trivial⟩
      have hzq : w.heap.size < w8.heap.size := by omega
      go_wp2_with fail
      go_roundw
      case rel => exact ⟨k + 1, r8, by omega, by go_num, hs, hp, hrr, hzq, hb⟩
      case measure => simp [intOf]; omega
    · obtain rfl : k = l.length := by omega
      rw [← HCOD.out] at hp
      have hlen : (codesB l).length ≤ 2000 := by rw [HCOD.out, List.length_append, rowsB_len l _ (Nat.le_refl _)]; omega
      go_wp2_with fail
      (with_reducible refine (PenBytes_calls _ r _ _ hp (by omega)).mono ?_)
      rintro e w8 ⟨v8, rfl, hrow, h9⟩
      have hz := hb.size
      have hb := hb.trans (h9.mono hb.size)
      have hrow := own_lowK hrow hz
      obtain ⟨A8, c8, b8, hv8, -⟩ := Row.sl hrow
      obtain ⟨N8, hN8⟩ : ∃ N8, N8 = (codesB l).length := ⟨_, rfl⟩
      rw [← hN8] at hv8
      clear hN8 h9
      subst hv8
      go_wp2_with fail
      go_ret
      exact ⟨_, rfl, hrow, hb⟩
end Go.Proofs.YtdmjkgafnnjkkaaDoor
