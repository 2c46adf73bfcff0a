/- Parts of one proof, in their order. -/
import Derived.Test.YtfckgfoimpileaaDoorZCodeForms03
/- The document's Check; Reals. Conditions: those said. -/
namespace Go.Proofs.YtfckgfoimpileaaDoor
open Go.RowKit

set_option maxHeartbeats 4000000 in
set_option maxRecDepth 20000 in
/-- The document's Check answers what Check does: below 0 where all may be. -/
theorem RCheck_calls (A : Option Addr) (l : List Cd) (n c b : Nat) (cells players : Int) (w : World) (hs : Sl w b A (kv l)) (hn : l.length = n) (hm : n ≤ maxLen) (hok : okK l) (hl0 : -9223372036854775808 ≤ cells) (hl1 : cells ≤ 9223372036854775807) :
    Calls Tryd.prog 13 #[.slice A n c, .int .i64 cells, .int .i64 players] w fun e w' => e = .returned (.int .i64 (if (checkV l cells players).2 = true then -1 else ((checkV l cells players).1 : Nat))) ∧ Below w.heap.size w w' := by
  subst hn
  by_cases hbig : 96 < l.length
  · have e0 : decide ((l.length : Int) > 96) = true := by simp; omega
    have hv : checkV l cells players = (96, false) := by unfold checkV; rw [if_pos hbig]
    rw [hv]
    clear hv
    go_enter Tryd.func13, Tryd.ntmps13
    go_wp2
    go_ret
    exact ⟨rfl, Below.refl _ _⟩
  have e0 : decide ((l.length : Int) > 96) = false := by simp; omega
  have hL : l.length ≤ 96 := by omega
  have hbad := fun k => checkV_bad (l := l) (cells := cells) (players := players) (k := k) hL
  have hgood := checkV_good (l := l) (cells := cells) (players := players) hL
  obtain ⟨V, hV⟩ : ∃ V, V = checkV l cells players := ⟨_, rfl⟩
  rw [← hV] at hgood ⊢
  simp only [← hV] at hbad
  have hF := fun op a b cc n m h W => RRight_calls op a b cc n m h (l.length : Int) cells players (by omega) (by omega) hl0 hl1 W
  have HB := Lib.hid hbad
  have HG := Lib.hid hgood
  clear hV hbad hgood
  obtain ⟨Z, hZ⟩ : ∃ Z : Int, Z = (if V.2 = true then -1 else ((V.1 : Nat) : Int)) := ⟨_, rfl⟩
  rw [← hZ]
  have HZ := Lib.hid hZ
  clear hZ
  go_enter Tryd.func13, Tryd.ntmps13
  go_wp2_with fail
  go_loopw [14] (fun i wr => ∃ k : Nat, k ≤ l.length ∧ i = .int .i64 k ∧ (∀ j (hj : j < k) (hj2 : j < l.length), fitsB l[j] cells ((l.length : Int) + 1) players = true) ∧ Sl wr b A (kv l) ∧ Below w.heap.size w wr) (fun i _ => l.length - (intOf i).toNat)
  case atStart => exact ⟨0, Nat.zero_le _, rfl, fun j hj => by omega, hs, Below.refl _ _⟩
  case round =>
    clear hs
    obtain ⟨k, hk, rfl, hall, hs, hb⟩ := hrel
    have HA := Lib.hid hall
    clear hall
    by_cases hlt : k < l.length
    · have ej : (k : Int) < (l.length : Int) := by omega
      have hck := hok l[k] (List.getElem_mem hlt)
      obtain ⟨off, rfl, c0, c1, c2, c3, c4, c5⟩ := sl_code hs hlt
      have HBk := Lib.hid (HB.out k hlt)
      obtain ⟨x, hx⟩ : ∃ x, x = l[k] := ⟨_, rfl⟩
      have HX := Lib.hid hx
      rw [← hx] at hck c0 c1 c2 c3 c4 c5 HBk
      clear hx
      obtain ⟨op, a, b', cc, n, m⟩ := x
      simp only at c0 c1 c2 c3 c4 c5
      have hFk := fun W => hF op a b' cc n m hck W
      obtain ⟨d, hd⟩ : ∃ d, d = fitsB ⟨op, a, b', cc, n, m⟩ cells ((l.length : Int) + 1) players := ⟨_, rfl⟩
      rw [← hd] at hFk
      have HD := Lib.hid hd
      have hba := below_alloc1 wr (.cells #[.int .u8 (op : Int), .int .u8 (a : Int), .int .u8 (b' : Int), .int .u8 (cc : Int), .int .i32 n, .int .u32 (m : Int)] 55)
      have hs2 := Sl.ext hs hba
      have hb2 := hb.trans (hba.mono hb.size)
      clear hd hs hb hba hF hck
      go_wp2_with fail
      refine (hFk _).mono ?_
      rintro e w6 ⟨rfl, h9⟩
      have hs := Sl.ext hs2 h9
      have hb := hb2.trans (h9.mono hb2.size)
      clear h9 hFk c0 c1 c2 c3 c4 c5 hs2 hb2
      cases d with
      | true =>
        go_wp2_with fail
        go_roundw
        case rel =>
          refine ⟨k + 1, by omega, by go_num, fun j hj hj2 => ?_, hs, hb⟩
          rcases Nat.lt_or_ge j k with h1 | h1
          · exact HA.out j h1 hj2
          · obtain rfl : j = k := by omega
            rw [← HX.out]
            exact HD.out.symm
        case measure => simp [intOf]; omega
      | false =>
        go_wp2_with fail
        go_ret
        have hv := HBk.out HD.out.symm (fun j hj => HA.out j hj (by omega))
        exact ⟨by rw [HZ.out, hv]; rfl, hb⟩
    · obtain rfl : k = l.length := by omega
      go_wp2_with fail
      go_ret
      have hv := HG.out (fun j hj => HA.out j hj hj)
      exact ⟨by rw [HZ.out, hv]; rfl, hb⟩
/-- How many Reveals there are. -/
def realsN (l : List Cd) : Nat := (l.filter fun c => c.op == 22).length
theorem reals_next {l : List Cd} {k : Nat} (h : k < l.length) : realsN (l.take (k + 1)) = realsN (l.take k) + if l[k].op = 22 then 1 else 0 := by
  rw [take_nextK h]
  unfold realsN
  rw [List.filter_append, List.length_append]
  congr 1
  by_cases h1 : l[k].op = 22 <;> simp [h1]
theorem reals_le (l : List Cd) : realsN l ≤ l.length := List.length_filter_le _ _
set_option maxHeartbeats 4000000 in
set_option maxRecDepth 20000 in
theorem Reals_calls (A : Option Addr) (l : List Cd) (n c b : Nat) (w : World) (hs : Sl w b A (kv l)) (hn : l.length = n) (hm : n ≤ 1000000) :
    Calls Tryd.prog 16 #[.slice A n c] w fun e w' => e = .returned (.int .i64 (realsN l : Nat)) ∧ Below w.heap.size w w' := by
  subst hn
  go_enter Tryd.func16, Tryd.ntmps16
  go_wp2_with fail
  go_loopw [3, 8] (fun out i wr => ∃ k : Nat, k ≤ l.length ∧ i = .int .i64 k ∧ out = .int .i64 (realsN (l.take k) : Nat) ∧ Sl wr b A (kv l) ∧ Below w.heap.size w wr) (fun _ i _ => l.length - (intOf i).toNat)
  case atStart => exact ⟨0, Nat.zero_le _, rfl, rfl, hs, Below.refl _ _⟩
  case round =>
    clear hs
    obtain ⟨k, hk, rfl, rfl, hs, hb⟩ := hrel
    by_cases hlt : k < l.length
    · have ej : (k : Int) < (l.length : Int) := by omega
      have hle := reals_le (l.take k)
      rw [List.length_take] at hle
      obtain ⟨off, rfl, c0, c1, c2, c3, c4, c5⟩ := sl_code hs hlt
      have hnx := reals_next hlt
      obtain ⟨R, hR⟩ : ∃ R, R = realsN (l.take k) := ⟨_, rfl⟩
      obtain ⟨x, hx⟩ : ∃ x, x = l[k] := ⟨_, rfl⟩
      rw [← hx] at c0 c1 c2 c3 c4 c5 hnx
      rw [← hR] at hnx hle
      simp only [← hR]
      clear hx hR
      obtain ⟨op, a, b', cc, n, m⟩ := x
      simp only at c0 c1 c2 c3 c4 c5 hnx
      have hw := IntWalk.i64_in ((R : Int) + 1) (by omega)
      have hba := below_alloc1 wr (.cells #[.int .u8 (op : Int), .int .u8 (a : Int), .int .u8 (b' : Int), .int .u8 (cc : Int), .int .i32 n, .int .u32 (m : Int)] 33)
      have hs2 := Sl.ext hs hba
      have hb2 := hb.trans (hba.mono hb.size)
      clear hs hb hba
      by_cases h22 : op = 22
      · have e22 : ((op : Int) == 22) = true := by rw [beq_iff_eq]; omega
        rw [if_pos h22] at hnx
        have HN := Lib.hid hnx
        clear hnx h22
        go_wp2_with fail
        go_roundw
        case rel => exact ⟨k + 1, by omega, by go_num, by rw [HN.out]; go_num, hs2, hb2⟩
        case measure => simp [intOf]; omega
      · have e22 : ((op : Int) == 22) = false := by rw [beq_eq_false_iff_ne]; omega
        rw [if_neg h22] at hnx
        have HN := Lib.hid hnx
        clear hnx h22
        go_wp2_with fail
        go_roundw
        case rel => exact ⟨k + 1, by omega, by go_num, by rw [HN.out]; rfl, hs2, hb2⟩
        case measure => simp [intOf]; omega
    · obtain rfl : k = l.length := by omega
      have hl : realsN (l.take l.length) = realsN l := by rw [List.take_length]
      go_wp2_with fail
      go_ret
      exact ⟨by rw [← hl]; rfl, hb⟩
end Go.Proofs.YtfckgfoimpileaaDoor
/- Bytes of instructions. Conditions: the numbers fit. -/
namespace Go.Proofs.YtfckgfoimpileaaDoor
open Go.RowKit

def uN (x : Int) : Nat := (x % 4294967296).toNat
theorem uN_lt (x : Int) : uN x < 4294967296 := by unfold uN; omega
theorem uN_wrap (x : Int) : IntKind.u32.wrap x = ((uN x : Nat) : Int) := by rw [IntKind.wrap_u32]; unfold uN; omega
theorem uN_mod (x : Int) : x % 4294967296 = ((uN x : Nat) : Int) := by unfold uN; omega
/-- What is written of an instruction. -/
def codeB (c : Cd) : List UInt8 := low c.op 1 ++ (low c.a 1 ++ (low c.b 1 ++ (low c.c 1 ++ (low (uN c.n) 4 ++ low c.m 4))))
def rowsB (l : List Cd) (k : Nat) : List UInt8 := (l.take k).flatMap codeB
def codesB (l : List Cd) : List UInt8 := num l.length ++ rowsB l l.length
theorem rowsB_next {l : List Cd} {k : Nat} (h : k < l.length) : rowsB l (k + 1) = rowsB l k ++ codeB l[k] := by
  unfold rowsB
  rw [take_nextK h, List.flatMap_append]
  simp
theorem codeB_len (c : Cd) : (codeB c).length = 12 := by simp [codeB]
theorem rowsB_len (l : List Cd) (k : Nat) (h : k ≤ l.length) : (rowsB l k).length = 12 * k := by
  induction k with
  | zero => simp [rowsB]
  | succ k ih => rw [rowsB_next (by omega), List.length_append, ih (by omega), codeB_len]; omega
theorem num_le (n : Nat) : (num n).length ≤ 10 := numF_length 10 n
theorem pen_undrew {g : Nat} {r r' : Option Nat} {a w : World} (h : PenStep g r r' a.drew w) : PenStep g r r' a w := ⟨h.1, h.2.os, h.2.tape, h.2.output, h.2.size, h.2.block⟩
theorem pen_drew {w : World} {g : Nat} {r : Option Nat} {l : List UInt8} (h : PenAt w g r l) : PenAt w.drew g r l := h
theorem pen_next {g N B : Nat} {r r' : Option Nat} {w w' : World} (hst : PenStep g r r' w w') (hr : ∀ j, r = some j → N ≤ j ∧ j ≠ B) (hN : N ≤ w.heap.size) (hB : B < w.heap.size) : ∀ j, r' = some j → N ≤ j ∧ j ≠ B := fun j hj => by
  rcases hst.1 with h | ⟨q, h, hq⟩
  · exact hr j (h ▸ hj)
  · have e := h.symm.trans hj
    injection e with e
    omega
theorem pen_not {g N B b : Nat} {r : Option Nat} (hr : ∀ j, r = some j → N ≤ j ∧ j ≠ B) (hg : b ≠ g) (hb : b < N ∨ b = B) : ¬(b = g ∨ r = some b) := fun h => by
  rcases h with h | h
  · exact hg h
  · have := hr b h; omega
theorem pen_below {g N B M : Nat} {r r' : Option Nat} {w w' : World} (hst : PenStep g r r' w w') (hr : ∀ j, r = some j → N ≤ j ∧ j ≠ B) (hM : M ≤ w.heap.size) (hg : M ≤ g) (hN : M ≤ N) : Below M w w' :=
  hst.2.below hM fun i hi h => by
    rcases h with h | h
    · omega
    · have := hr i h; omega
theorem sl_modK {w w' : World} {b : Nat} {A : Option Addr} {L : List Cd} (h : Sl w b A (kv L)) {S : Nat → Prop} (hm : Mod S w w') (hs : 0 < L.length → ¬ S b) : Sl w' b A (kv L) := by
  by_cases hl : L.length = 0
  · have : L = [] := List.eq_nil_of_length_eq_zero hl
    subst this; exact Sl.nil_ _ _ _
  · exact Sl.mod h hm (hs (by omega))
theorem own_lowK {w : World} {B B' n sz : Nat} {e : TypeId} {v : Value} {xs : List Value} (h : w.ownsRow B e sz v n xs) (hB : B' ≤ B) : w.ownsRow B' e sz v n xs := by
  refine ⟨h.1, ?_⟩
  rcases h.2 with h2 | ⟨g, cap, cur, rfl, hg, r⟩
  · exact .inl h2
  · exact .inr ⟨g, cap, cur, rfl, by omega, r⟩
theorem CBytes_out (A : Option Addr) (n c : Nat) (w : World) (hbig : 96 < n) :
    Calls Tryd.prog 18 #[.slice A n c] w fun e w' => e = .returned (.slice none 0 0) ∧ w' = w := by
  have e0 : decide ((n : Int) > 96) = true := by simp; omega
  go_enter Tryd.func18, Tryd.ntmps18
  go_wp2
  go_ret
  exact ⟨rfl, rfl⟩
set_option maxHeartbeats 16000000 in
set_option maxRecDepth 20000 in
theorem CBytes_in (A : Option Addr) (l : List Cd) (n c b : Nat) (w : World) (hs : Sl w b A (kv l)) (hn : l.length = n) (hL : n ≤ 96) (hok : okK l) :
    Calls Tryd.prog 18 #[.slice A n c] w fun e w' => ∃ v, e = .returned v ∧ Row w' w.heap.size v (codesB l) ∧ Below w.heap.size w w' := by
  subst hn
  have e0 : decide ((l.length : Int) > 96) = false := by simp; omega
  have hnw : IntKind.u64.wrap (l.length : Int) = (l.length : Int) := IntWalk.u64_in _ (by omega)
  have hlb : 0 < l.length → b < w.heap.size := fun h => Sl.lt hs (by intro h0; have h1 := congrArg List.length h0; rw [kv_length, List.length_nil] at h1; omega)
  have h9 := below_alloc1 w (.cells #[.slice none 0 0] 73)
  have hp : PenAt (w.alloc (.cells #[.slice none 0 0] 73)) w.heap.size none [] := ⟨.slice none 0 0, heap_alloc_new w _, Row.nil_ _ _, rfl⟩
  have hs := Sl.ext hs h9
  have hb := h9
  have hnl := num_le l.length
  have hzp : w.heap.size < (w.alloc (.cells #[.slice none 0 0] 73)).heap.size := by simp
  have hrr : ∀ j, (none : Option Nat) = some j → w.heap.size ≤ j ∧ j ≠ w.heap.size := fun j hj => by cases hj
  clear h9
  go_enter Tryd.func18, Tryd.ntmps18
  go_wp2_with fail
  (with_reducible refine (PenNum_calls _ none [] l.length _ hp (by omega) (by simp)).mono ?_)
  rintro e w2 ⟨rfl, r2, hp, hst⟩
  have hs9 := hst.2.size
  have hs := sl_modK hs hst.2 (fun h0 => pen_not hrr (by have := hlb h0; omega) (.inl (hlb h0)))
  have hb := hb.trans (pen_below hst hrr (by have := hb.size; omega) (by omega) (by omega))
  have hrr := pen_next hst hrr (by omega) (by omega)
  have hzp := Nat.lt_of_lt_of_le hzp hs9
  clear hst hs9
  rw [List.nil_append] at hp
  have hp : PenAt w2 w.heap.size r2 (num l.length ++ rowsB l 0) := hp.cast (by simp [rowsB])
  obtain ⟨NL, hNL⟩ : ∃ N, N = num l.length := ⟨_, rfl⟩
  have hcod : codesB l = NL ++ rowsB l l.length := by rw [hNL]; rfl
  rw [← hNL] at hp hnl
  have HCOD := Lib.hid hcod
  clear hNL hcod
  go_wp2_with fail
  have hs9 := hs
  repeat clear hs
  have hp9 := hp
  repeat clear hp
  have hrr9 := hrr
  repeat clear hrr
  have hzp9 := hzp
  repeat clear hzp
  have hb9 := hb
  repeat clear hb
  go_loopw [15] (fun i wr => ∃ (k : Nat) (r : Option Nat), k ≤ l.length ∧ i = .int .i64 k ∧ Sl wr b A (kv l) ∧ PenAt wr w.heap.size r (NL ++ rowsB l k) ∧ (∀ j, r = some j → w.heap.size ≤ j ∧ True) ∧ w.heap.size < wr.heap.size ∧ Below w.heap.size w wr) (fun i _ => l.length - (intOf i).toNat)
  case atStart => exact ⟨0, r2, Nat.zero_le _, rfl, hs9, hp9, fun j hj => ⟨(hrr9 j hj).1, trivial⟩, hzp9, hb9⟩
  case round =>
    clear hs9 hp9 hrr9 hzp9 hb9
    obtain ⟨k, r, hk, rfl, hs, hp, hrr, hzp, hb⟩ := hrel
    by_cases hlt : k < l.length
    · have hl1 := hlb (by omega)
      have hrl := rowsB_len l k (by omega)
      have hsn := rowsB_next hlt
      have hck := hok l[k] (List.getElem_mem hlt)
      obtain ⟨off, rfl, c0, c1, c2, c3, c4, c5⟩ := sl_code hs hlt
      obtain ⟨x, hx⟩ : ∃ x, x = l[k] := ⟨_, rfl⟩
      rw [← hx] at hck c0 c1 c2 c3 c4 c5 hsn
      clear hx
      obtain ⟨op, a, b', cc, n, m⟩ := x
      obtain ⟨k0, k1, k2, k3, k4, k5, k6⟩ := hck
      simp only at c0 c1 c2 c3 c4 c5 k0 k1 k2 k3 k4 k5 k6
      have hu1 := uN_wrap n
      have hu2 := uN_mod n
      have hul := uN_lt n
      have hcb : codeB ⟨op, a, b', cc, n, m⟩ = low op 1 ++ (low a 1 ++ (low b' 1 ++ (low cc 1 ++ (low (uN n) 4 ++ low m 4)))) := rfl
      obtain ⟨u, hu⟩ : ∃ u, u = uN n := ⟨_, rfl⟩
      rw [← hu] at hu1 hu2 hul hcb
      rw [hcb] at hsn
      have HS := Lib.hid hsn
      have HRL := Lib.hid hrl
      have ej : (k : Int) < (l.length : Int) := by omega
      clear hu hcb hsn hrl
      have kx := heap_alloc_new wr (.cells #[.int .u8 (op : Int), .int .u8 (a : Int), .int .u8 (b' : Int), .int .u8 (cc : Int), .int .i32 n, .int .u32 (m : Int)] 33)
      have hp0 := hp
      have h9 := below_alloc1 wr (.cells #[.int .u8 (op : Int), .int .u8 (a : Int), .int .u8 (b' : Int), .int .u8 (cc : Int), .int .i32 n, .int .u32 (m : Int)] 33)
      have hp := PenAt.ext hp h9
      have hs := Sl.ext hs h9
      have hb := hb.trans (h9.mono hb.size)
      have hrr : ∀ j, r = some j → w.heap.size ≤ j ∧ j ≠ wr.heap.size := fun j hj => ⟨(hrr j hj).1, by have := PenAt.row_lt hp0 j hj; omega⟩
      have hzw := hzp
      have hzp : wr.heap.size < (wr.alloc (.cells #[.int .u8 (op : Int), .int .u8 (a : Int), .int .u8 (b' : Int), .int .u8 (cc : Int), .int .i32 n, .int .u32 (m : Int)] 33)).heap.size := by simp
      clear hp0 h9
      go_wp2_with fail
      clear c0 c1 c2 c3 c4 c5
      refine wp_region_held_drew (S := fun w' => w'.heap[wr.heap.size]? = some (.cells #[.int .u8 (op : Int), .int .u8 (a : Int), .int .u8 (b' : Int), .int .u8 (cc : Int), .int .i32 n, .int .u32 (m : Int)] 33 (0, 0))) (by kernel_rfl) ?_ (fun hHeld => ?_)
      · exact kx
      refine wpAnyH_take (i := 0) (v := ?zv0) (by simp only [List.getElem?_toArray, List.getElem?_cons_zero]; rfl) (by kernel_rfl) (by kernel_rfl) (by kernel_rfl) (by exact fun _ _ _ h => h) (Or.inl ⟨by rfl, ?zy0⟩) hHeld ?_
      case zy0 => (intro w hSw; (try dsimp only at hSw); have hy0 := (cell_of_row _ _ 0 _ _ _ hSw).trans (show _ = some _ from rfl); have hy1 := (cell_of_row _ _ 1 _ _ _ hSw).trans (show _ = some _ from rfl); have hy2 := (cell_of_row _ _ 2 _ _ _ hSw).trans (show _ = some _ from rfl); have hy3 := (cell_of_row _ _ 3 _ _ _ hSw).trans (show _ = some _ from rfl); have hy4 := (cell_of_row _ _ 4 _ _ _ hSw).trans (show _ = some _ from rfl); have hy5 := (cell_of_row _ _ 5 _ _ _ hSw).trans (show _ = some _ from rfl); clear hSw; go_simp; try (with_reducible rfl))
      try simp only [Act.put, List.setIfInBounds_toArray, List.set_cons_zero, List.set_cons_succ]
      refine wpAnyH_take (i := 1) (v := ?zv1) (by simp only [List.getElem?_toArray, List.getElem?_cons_succ, List.getElem?_cons_zero]; rfl) (by kernel_rfl) (by kernel_rfl) (by kernel_rfl) (by exact fun _ _ _ h => h) (Or.inl ⟨by rfl, ?zy1⟩) hHeld ?_
      case zy1 => (intro w hSw; (try dsimp only at hSw); have hy0 := (cell_of_row _ _ 0 _ _ _ hSw).trans (show _ = some _ from rfl); have hy1 := (cell_of_row _ _ 1 _ _ _ hSw).trans (show _ = some _ from rfl); have hy2 := (cell_of_row _ _ 2 _ _ _ hSw).trans (show _ = some _ from rfl); have hy3 := (cell_of_row _ _ 3 _ _ _ hSw).trans (show _ = some _ from rfl); have hy4 := (cell_of_row _ _ 4 _ _ _ hSw).trans (show _ = some _ from rfl); have hy5 := (cell_of_row _ _ 5 _ _ _ hSw).trans (show _ = some _ from rfl); clear hSw; go_simp; try (with_reducible rfl))
      try simp only [Act.put, List.setIfInBounds_toArray, List.set_cons_zero, List.set_cons_succ]
      refine wpAnyH_take (i := 3) (v := ?zv3) (by simp only [List.getElem?_toArray, List.getElem?_cons_succ, List.getElem?_cons_zero]; rfl) (by kernel_rfl) (by kernel_rfl) (by kernel_rfl) (by exact fun _ _ _ h => h) (Or.inl ⟨by rfl, ?zy3⟩) hHeld ?_
      case zy3 => (intro w hSw; (try dsimp only at hSw); have hy0 := (cell_of_row _ _ 0 _ _ _ hSw).trans (show _ = some _ from rfl); have hy1 := (cell_of_row _ _ 1 _ _ _ hSw).trans (show _ = some _ from rfl); have hy2 := (cell_of_row _ _ 2 _ _ _ hSw).trans (show _ = some _ from rfl); have hy3 := (cell_of_row _ _ 3 _ _ _ hSw).trans (show _ = some _ from rfl); have hy4 := (cell_of_row _ _ 4 _ _ _ hSw).trans (show _ = some _ from rfl); have hy5 := (cell_of_row _ _ 5 _ _ _ hSw).trans (show _ = some _ from rfl); clear hSw; go_simp; try (with_reducible rfl))
      try simp only [Act.put, List.setIfInBounds_toArray, List.set_cons_zero, List.set_cons_succ]
      refine wpAnyH_take (i := 4) (v := ?zv4) (by simp only [List.getElem?_toArray, List.getElem?_cons_succ, List.getElem?_cons_zero]; rfl) (by kernel_rfl) (by kernel_rfl) (by kernel_rfl) (by exact fun _ _ _ h => h) (Or.inl ⟨by rfl, ?zy4⟩) hHeld ?_
      case zy4 => (intro w hSw; (try dsimp only at hSw); have hy0 := (cell_of_row _ _ 0 _ _ _ hSw).trans (show _ = some _ from rfl); have hy1 := (cell_of_row _ _ 1 _ _ _ hSw).trans (show _ = some _ from rfl); have hy2 := (cell_of_row _ _ 2 _ _ _ hSw).trans (show _ = some _ from rfl); have hy3 := (cell_of_row _ _ 3 _ _ _ hSw).trans (show _ = some _ from rfl); have hy4 := (cell_of_row _ _ 4 _ _ _ hSw).trans (show _ = some _ from rfl); have hy5 := (cell_of_row _ _ 5 _ _ _ hSw).trans (show _ = some _ from rfl); clear hSw; go_simp; try (with_reducible rfl))
      try simp only [Act.put, List.setIfInBounds_toArray, List.set_cons_zero, List.set_cons_succ]
      refine wpAnyH_take (i := 6) (v := ?zv6) (by simp only [List.getElem?_toArray, List.getElem?_cons_succ, List.getElem?_cons_zero]; rfl) (by kernel_rfl) (by kernel_rfl) (by kernel_rfl) (by exact fun _ _ _ h => h) (Or.inl ⟨by rfl, ?zy6⟩) hHeld ?_
      case zy6 => (intro w hSw; (try dsimp only at hSw); have hy0 := (cell_of_row _ _ 0 _ _ _ hSw).trans (show _ = some _ from rfl); have hy1 := (cell_of_row _ _ 1 _ _ _ hSw).trans (show _ = some _ from rfl); have hy2 := (cell_of_row _ _ 2 _ _ _ hSw).trans (show _ = some _ from rfl); have hy3 := (cell_of_row _ _ 3 _ _ _ hSw).trans (show _ = some _ from rfl); have hy4 := (cell_of_row _ _ 4 _ _ _ hSw).trans (show _ = some _ from rfl); have hy5 := (cell_of_row _ _ 5 _ _ _ hSw).trans (show _ = some _ from rfl); clear hSw; go_simp; try (with_reducible rfl))
      try simp only [Act.put, List.setIfInBounds_toArray, List.set_cons_zero, List.set_cons_succ]
      refine wpAnyH_take (i := 7) (v := ?zv7) (by simp only [List.getElem?_toArray, List.getElem?_cons_succ, List.getElem?_cons_zero]; rfl) (by kernel_rfl) (by kernel_rfl) (by kernel_rfl) (by exact fun _ _ _ h => h) (Or.inl ⟨by rfl, ?zy7⟩) hHeld ?_
      case zy7 => (intro w hSw; (try dsimp only at hSw); have hy0 := (cell_of_row _ _ 0 _ _ _ hSw).trans (show _ = some _ from rfl); have hy1 := (cell_of_row _ _ 1 _ _ _ hSw).trans (show _ = some _ from rfl); have hy2 := (cell_of_row _ _ 2 _ _ _ hSw).trans (show _ = some _ from rfl); have hy3 := (cell_of_row _ _ 3 _ _ _ hSw).trans (show _ = some _ from rfl); have hy4 := (cell_of_row _ _ 4 _ _ _ hSw).trans (show _ = some _ from rfl); have hy5 := (cell_of_row _ _ 5 _ _ _ hSw).trans (show _ = some _ from rfl); clear hSw; go_simp; try (with_reducible rfl))
      try simp only [Act.put, List.setIfInBounds_toArray, List.set_cons_zero, List.set_cons_succ]
      refine wpAnyH_take (i := 9) (v := ?zv9) (by simp only [List.getElem?_toArray, List.getElem?_cons_succ, List.getElem?_cons_zero]; rfl) (by kernel_rfl) (by kernel_rfl) (by kernel_rfl) (by exact fun _ _ _ h => h) (Or.inl ⟨by rfl, ?zy9⟩) hHeld ?_
      case zy9 => (intro w hSw; (try dsimp only at hSw); have hy0 := (cell_of_row _ _ 0 _ _ _ hSw).trans (show _ = some _ from rfl); have hy1 := (cell_of_row _ _ 1 _ _ _ hSw).trans (show _ = some _ from rfl); have hy2 := (cell_of_row _ _ 2 _ _ _ hSw).trans (show _ = some _ from rfl); have hy3 := (cell_of_row _ _ 3 _ _ _ hSw).trans (show _ = some _ from rfl); have hy4 := (cell_of_row _ _ 4 _ _ _ hSw).trans (show _ = some _ from rfl); have hy5 := (cell_of_row _ _ 5 _ _ _ hSw).trans (show _ = some _ from rfl); clear hSw; go_simp; try (with_reducible rfl))
      try simp only [Act.put, List.setIfInBounds_toArray, List.set_cons_zero, List.set_cons_succ]
      refine wpAnyH_take (i := 10) (v := ?zv10) (by simp only [List.getElem?_toArray, List.getElem?_cons_succ, List.getElem?_cons_zero]; rfl) (by kernel_rfl) (by kernel_rfl) (by kernel_rfl) (by exact fun _ _ _ h => h) (Or.inl ⟨by rfl, ?zy10⟩) hHeld ?_
      case zy10 => (intro w hSw; (try dsimp only at hSw); have hy0 := (cell_of_row _ _ 0 _ _ _ hSw).trans (show _ = some _ from rfl); have hy1 := (cell_of_row _ _ 1 _ _ _ hSw).trans (show _ = some _ from rfl); have hy2 := (cell_of_row _ _ 2 _ _ _ hSw).trans (show _ = some _ from rfl); have hy3 := (cell_of_row _ _ 3 _ _ _ hSw).trans (show _ = some _ from rfl); have hy4 := (cell_of_row _ _ 4 _ _ _ hSw).trans (show _ = some _ from rfl); have hy5 := (cell_of_row _ _ 5 _ _ _ hSw).trans (show _ = some _ from rfl); clear hSw; go_simp; try (with_reducible rfl))
      try simp only [Act.put, List.setIfInBounds_toArray, List.set_cons_zero, List.set_cons_succ]
      refine wpAnyH_take (i := 12) (v := ?zv12) (by simp only [List.getElem?_toArray, List.getElem?_cons_succ, List.getElem?_cons_zero]; rfl) (by kernel_rfl) (by kernel_rfl) (by kernel_rfl) (by exact fun _ _ _ h => h) (Or.inl ⟨by rfl, ?zy12⟩) hHeld ?_
      case zy12 => (intro w hSw; (try dsimp only at hSw); have hy0 := (cell_of_row _ _ 0 _ _ _ hSw).trans (show _ = some _ from rfl); have hy1 := (cell_of_row _ _ 1 _ _ _ hSw).trans (show _ = some _ from rfl); have hy2 := (cell_of_row _ _ 2 _ _ _ hSw).trans (show _ = some _ from rfl); have hy3 := (cell_of_row _ _ 3 _ _ _ hSw).trans (show _ = some _ from rfl); have hy4 := (cell_of_row _ _ 4 _ _ _ hSw).trans (show _ = some _ from rfl); have hy5 := (cell_of_row _ _ 5 _ _ _ hSw).trans (show _ = some _ from rfl); clear hSw; go_simp; try (with_reducible rfl))
      try simp only [Act.put, List.setIfInBounds_toArray, List.set_cons_zero, List.set_cons_succ]
      refine wpAnyH_take (i := 13) (v := ?zv13) (by simp only [List.getElem?_toArray, List.getElem?_cons_succ, List.getElem?_cons_zero]; rfl) (by kernel_rfl) (by kernel_rfl) (by kernel_rfl) (by exact fun _ _ _ h => h) (Or.inl ⟨by rfl, ?zy13⟩) hHeld ?_
      case zy13 => (intro w hSw; (try dsimp only at hSw); have hy0 := (cell_of_row _ _ 0 _ _ _ hSw).trans (show _ = some _ from rfl); have hy1 := (cell_of_row _ _ 1 _ _ _ hSw).trans (show _ = some _ from rfl); have hy2 := (cell_of_row _ _ 2 _ _ _ hSw).trans (show _ = some _ from rfl); have hy3 := (cell_of_row _ _ 3 _ _ _ hSw).trans (show _ = some _ from rfl); have hy4 := (cell_of_row _ _ 4 _ _ _ hSw).trans (show _ = some _ from rfl); have hy5 := (cell_of_row _ _ 5 _ _ _ hSw).trans (show _ = some _ from rfl); clear hSw; go_simp; try (with_reducible rfl))
      try simp only [Act.put, List.setIfInBounds_toArray, List.set_cons_zero, List.set_cons_succ]
      refine wpAnyH_take (i := 14) (v := ?zv14) (by simp only [List.getElem?_toArray, List.getElem?_cons_succ, List.getElem?_cons_zero]; rfl) (by kernel_rfl) (by kernel_rfl) (by kernel_rfl) (by exact fun _ _ _ h => h) (Or.inl ⟨by rfl, ?zy14⟩) hHeld ?_
      case zy14 => (intro w hSw; (try dsimp only at hSw); have hy0 := (cell_of_row _ _ 0 _ _ _ hSw).trans (show _ = some _ from rfl); have hy1 := (cell_of_row _ _ 1 _ _ _ hSw).trans (show _ = some _ from rfl); have hy2 := (cell_of_row _ _ 2 _ _ _ hSw).trans (show _ = some _ from rfl); have hy3 := (cell_of_row _ _ 3 _ _ _ hSw).trans (show _ = some _ from rfl); have hy4 := (cell_of_row _ _ 4 _ _ _ hSw).trans (show _ = some _ from rfl); have hy5 := (cell_of_row _ _ 5 _ _ _ hSw).trans (show _ = some _ from rfl); clear hSw; go_simp; try (with_reducible rfl))
      try simp only [Act.put, List.setIfInBounds_toArray, List.set_cons_zero, List.set_cons_succ]
      refine wpAnyH_take (i := 16) (v := ?zv16) (by simp only [List.getElem?_toArray, List.getElem?_cons_succ, List.getElem?_cons_zero]; rfl) (by kernel_rfl) (by kernel_rfl) (by kernel_rfl) (by exact fun _ _ _ h => h) (Or.inl ⟨by rfl, ?zy16⟩) hHeld ?_
      case zy16 => (intro w hSw; (try dsimp only at hSw); have hy0 := (cell_of_row _ _ 0 _ _ _ hSw).trans (show _ = some _ from rfl); have hy1 := (cell_of_row _ _ 1 _ _ _ hSw).trans (show _ = some _ from rfl); have hy2 := (cell_of_row _ _ 2 _ _ _ hSw).trans (show _ = some _ from rfl); have hy3 := (cell_of_row _ _ 3 _ _ _ hSw).trans (show _ = some _ from rfl); have hy4 := (cell_of_row _ _ 4 _ _ _ hSw).trans (show _ = some _ from rfl); have hy5 := (cell_of_row _ _ 5 _ _ _ hSw).trans (show _ = some _ from rfl); clear hSw; go_simp; try (with_reducible rfl))
      try simp only [Act.put, List.setIfInBounds_toArray, List.set_cons_zero, List.set_cons_succ]
      refine wpAnyH_take (i := 17) (v := ?zv17) (by simp only [List.getElem?_toArray, List.getElem?_cons_succ, List.getElem?_cons_zero]; rfl) (by kernel_rfl) (by kernel_rfl) (by kernel_rfl) (by exact fun _ _ _ h => h) (Or.inl ⟨by rfl, ?zy17⟩) hHeld ?_
      case zy17 => (intro w hSw; (try dsimp only at hSw); have hy0 := (cell_of_row _ _ 0 _ _ _ hSw).trans (show _ = some _ from rfl); have hy1 := (cell_of_row _ _ 1 _ _ _ hSw).trans (show _ = some _ from rfl); have hy2 := (cell_of_row _ _ 2 _ _ _ hSw).trans (show _ = some _ from rfl); have hy3 := (cell_of_row _ _ 3 _ _ _ hSw).trans (show _ = some _ from rfl); have hy4 := (cell_of_row _ _ 4 _ _ _ hSw).trans (show _ = some _ from rfl); have hy5 := (cell_of_row _ _ 5 _ _ _ hSw).trans (show _ = some _ from rfl); clear hSw; go_simp; try (with_reducible rfl))
      try simp only [Act.put, List.setIfInBounds_toArray, List.set_cons_zero, List.set_cons_succ]
      refine wpAnyH_ready (rs := [2]) (by kernel_rfl) (by simp) ?_
      refine AllReadyH.cons (by simp only [List.getElem?_toArray, List.getElem?_cons_succ, List.getElem?_cons_zero]; rfl) (fun KK hKK => ?_) AllReadyH.nil
      go_simp
      have hp := pen_drew hp
      (with_reducible refine (PenByte_calls _ r _ op _ hp (by omega) (by have := HRL.out; simp; omega)).mono ?_)
      rintro e w3 ⟨rfl, r3, hp, hst⟩
      have hst := pen_undrew hst
      have hs9 := hst.2.size
      have hs := sl_modK hs hst.2 (fun _ => pen_not hrr (by omega) (.inl hl1))
      have kx := (hst.2.block _ (Array.getElem?_eq_some_iff.1 kx).1 (pen_not hrr (by omega) (.inr rfl))).trans kx
      have hb := hb.trans (pen_below hst hrr (by have := hb.size; omega) (by omega) (by omega))
      have hrr := pen_next hst hrr (by omega) (by omega)
      have hzp := Nat.lt_of_lt_of_le hzp hs9
      clear hst hs9
      go_wp2_with fail
      refine hKK.out _ _ ?_ (fun hHeld => ?_)
      · exact kx
      clear hKK KK
      try simp only [Act.put, List.setIfInBounds_toArray, List.set_cons_zero, List.set_cons_succ]
      refine wpAnyH_ready (rs := [5]) (by kernel_rfl) (by simp) ?_
      refine AllReadyH.cons (by simp only [List.getElem?_toArray, List.getElem?_cons_succ, List.getElem?_cons_zero]; rfl) (fun KK hKK => ?_) AllReadyH.nil
      go_simp
      (with_reducible refine (PenByte_calls _ r3 _ a _ hp (by omega) (by have := HRL.out; simp; omega)).mono ?_)
      rintro e w4 ⟨rfl, r4, hp, hst⟩
      have hs9 := hst.2.size
      have hs := sl_modK hs hst.2 (fun _ => pen_not hrr (by omega) (.inl hl1))
      have kx := (hst.2.block _ (Array.getElem?_eq_some_iff.1 kx).1 (pen_not hrr (by omega) (.inr rfl))).trans kx
      have hb := hb.trans (pen_below hst hrr (by have := hb.size; omega) (by omega) (by omega))
      have hrr := pen_next hst hrr (by omega) (by omega)
      have hzp := Nat.lt_of_lt_of_le hzp hs9
      clear hst hs9
      go_wp2_with fail
      refine hKK.out _ _ ?_ (fun hHeld => ?_)
      · exact kx
      clear hKK KK
      try simp only [Act.put, List.setIfInBounds_toArray, List.set_cons_zero, List.set_cons_succ]
      refine wpAnyH_ready (rs := [8]) (by kernel_rfl) (by simp) ?_
      refine AllReadyH.cons (by simp only [List.getElem?_toArray, List.getElem?_cons_succ, List.getElem?_cons_zero]; rfl) (fun KK hKK => ?_) AllReadyH.nil
      go_simp
      (with_reducible refine (PenByte_calls _ r4 _ b' _ hp (by omega) (by have := HRL.out; simp; omega)).mono ?_)
      rintro e w5 ⟨rfl, r5, hp, hst⟩
      have hs9 := hst.2.size
      have hs := sl_modK hs hst.2 (fun _ => pen_not hrr (by omega) (.inl hl1))
      have kx := (hst.2.block _ (Array.getElem?_eq_some_iff.1 kx).1 (pen_not hrr (by omega) (.inr rfl))).trans kx
      have hb := hb.trans (pen_below hst hrr (by have := hb.size; omega) (by omega) (by omega))
      have hrr := pen_next hst hrr (by omega) (by omega)
      have hzp := Nat.lt_of_lt_of_le hzp hs9
      clear hst hs9
      go_wp2_with fail
      refine hKK.out _ _ ?_ (fun hHeld => ?_)
      · exact kx
      clear hKK KK
      try simp only [Act.put, List.setIfInBounds_toArray, List.set_cons_zero, List.set_cons_succ]
      refine wpAnyH_ready (rs := [11]) (by kernel_rfl) (by simp) ?_
      refine AllReadyH.cons (by simp only [List.getElem?_toArray, List.getElem?_cons_succ, List.getElem?_cons_zero]; rfl) (fun KK hKK => ?_) AllReadyH.nil
      go_simp
      (with_reducible refine (PenByte_calls _ r5 _ cc _ hp (by omega) (by have := HRL.out; simp; omega)).mono ?_)
      rintro e w6 ⟨rfl, r6, hp, hst⟩
      have hs9 := hst.2.size
      have hs := sl_modK hs hst.2 (fun _ => pen_not hrr (by omega) (.inl hl1))
      have kx := (hst.2.block _ (Array.getElem?_eq_some_iff.1 kx).1 (pen_not hrr (by omega) (.inr rfl))).trans kx
      have hb := hb.trans (pen_below hst hrr (by have := hb.size; omega) (by omega) (by omega))
      have hrr := pen_next hst hrr (by omega) (by omega)
      have hzp := Nat.lt_of_lt_of_le hzp hs9
      clear hst hs9
      go_wp2_with fail
      refine hKK.out _ _ ?_ (fun hHeld => ?_)
      · exact kx
      clear hKK KK
      try simp only [Act.put, List.setIfInBounds_toArray, List.set_cons_zero, List.set_cons_succ]
      refine wpAnyH_ready (rs := [15]) (by kernel_rfl) (by simp) ?_
      refine AllReadyH.cons (by simp only [List.getElem?_toArray, List.getElem?_cons_succ, List.getElem?_cons_zero]; rfl) (fun KK hKK => ?_) AllReadyH.nil
      go_simp
      (with_reducible refine (PenWord_calls _ r6 _ u _ hp hul (by have := HRL.out; simp; omega)).mono ?_)
      rintro e w7 ⟨rfl, r7, hp, hst⟩
      have hs9 := hst.2.size
      have hs := sl_modK hs hst.2 (fun _ => pen_not hrr (by omega) (.inl hl1))
      have kx := (hst.2.block _ (Array.getElem?_eq_some_iff.1 kx).1 (pen_not hrr (by omega) (.inr rfl))).trans kx
      have hb := hb.trans (pen_below hst hrr (by have := hb.size; omega) (by omega) (by omega))
      have hrr := pen_next hst hrr (by omega) (by omega)
      have hzp := Nat.lt_of_lt_of_le hzp hs9
      clear hst hs9
      go_wp2_with fail
      refine hKK.out _ _ ?_ (fun hHeld => ?_)
      · exact kx
      clear hKK KK
      try simp only [Act.put, List.setIfInBounds_toArray, List.set_cons_zero, List.set_cons_succ]
      refine wpAnyH_ready (rs := [18]) (by kernel_rfl) (by simp) ?_
      refine AllReadyH.cons (by simp only [List.getElem?_toArray, List.getElem?_cons_succ, List.getElem?_cons_zero]; rfl) (fun KK hKK => ?_) AllReadyH.nil
      go_simp
      (with_reducible refine (PenWord_calls _ r7 _ m _ hp (by omega) (by have := HRL.out; simp; omega)).mono ?_)
      rintro e w8 ⟨rfl, r8, hp, hst⟩
      have hs9 := hst.2.size
      have hs := sl_modK hs hst.2 (fun _ => pen_not hrr (by omega) (.inl hl1))
      have kx := (hst.2.block _ (Array.getElem?_eq_some_iff.1 kx).1 (pen_not hrr (by omega) (.inr rfl))).trans kx
      have hb := hb.trans (pen_below hst hrr (by have := hb.size; omega) (by omega) (by omega))
      have hrr := pen_next hst hrr (by omega) (by omega)
      have hzp := Nat.lt_of_lt_of_le hzp hs9
      clear hst hs9
      go_wp2_with fail
      refine hKK.out _ _ ?_ (fun hHeld => ?_)
      · exact kx
      clear hKK KK
      try simp only [Act.put, List.setIfInBounds_toArray, List.set_cons_zero, List.set_cons_succ]
      refine wpAnyH_done (by kernel_rfl) ?_ _
      have hp : PenAt w8 w.heap.size r8 (NL ++ rowsB l (k + 1)) := hp.cast (by rw [HS.out]; simp only [List.append_assoc])
      have hrr : ∀ j, r8 = some j → w.heap.size ≤ j ∧ True := fun j hj => ⟨(hrr j hj).1, trivial⟩
      have hzq : w.heap.size < w8.heap.size := by omega
      go_wp2_with fail
      go_roundw
      case rel => exact ⟨k + 1, r8, by omega, by go_num, hs, hp, hrr, hzq, hb⟩
      case measure => simp [intOf]; omega
    · obtain rfl : k = l.length := by omega
      rw [← HCOD.out] at hp
      have hlen : (codesB l).length ≤ 2000 := by rw [HCOD.out, List.length_append, rowsB_len l _ (Nat.le_refl _)]; omega
      go_wp2_with fail
      (with_reducible refine (PenBytes_calls _ r _ _ hp (by omega)).mono ?_)
      rintro e w8 ⟨v8, rfl, hrow, h9⟩
      have hz := hb.size
      have hb := hb.trans (h9.mono hb.size)
      have hrow := own_lowK hrow hz
      obtain ⟨A8, c8, b8, hv8, -⟩ := Row.sl hrow
      obtain ⟨N8, hN8⟩ : ∃ N8, N8 = (codesB l).length := ⟨_, rfl⟩
      rw [← hN8] at hv8
      clear hN8 h9
      subst hv8
      go_wp2_with fail
      go_ret
      exact ⟨_, rfl, hrow, hb⟩
end Go.Proofs.YtfckgfoimpileaaDoor
/- What instructions' bytes read as, plainly: how many, a row of twelve for each; what was written comes back. Conditions: those said. -/
namespace Go.Proofs.YtfckgfoimpileaaDoor
open Go.RowKit

theorem low_first (n k : Nat) : low n (k + 1) = UInt8.ofNat n :: low (n / 256) k := by
  simp only [low, List.range_succ_eq_map, List.map_cons, List.map_map, Nat.pow_zero, Nat.div_one]
  congr 1
  apply List.map_congr_left
  intro i _
  simp only [Function.comp, Nat.pow_succ]
  rw [Nat.mul_comm, Nat.div_div_eq_div_mul]
theorem valN_low (n k : Nat) : valN (low n k) = n % 256 ^ k := by
  induction k generalizing n with
  | zero => simp [low, valN, Nat.mod_one]
  | succ k ih =>
    rw [low_first, valN_cons, ih, Nat.pow_succ, Nat.mul_comm (256 ^ k), Nat.mod_mul]
    simp
    omega
theorem rdN_low (k n : Nat) (r : List UInt8) (bad : Bool) (hn : n < 256 ^ k) : rdN k (low n k ++ r) bad = (n, r, bad) := by
  unfold rdN
  rw [if_pos (by simp), List.take_left' (by simp), List.drop_left' (by simp), valN_low, Nat.mod_eq_of_lt hn]
theorem rdN_yes {k : Nat} {l : List UInt8} (bad : Bool) (h : k ≤ l.length) : rdN k l bad = (valN (l.take k), l.drop k, bad) := by unfold rdN; rw [if_pos h]
theorem rdN_good {k n : Nat} {l l' : List UInt8} {bad : Bool} (h : rdN k l bad = (n, l', false)) : bad = false ∧ l.length = k + l'.length := by
  unfold rdN at h
  split at h
  · rename_i hk
    injection h with h1 h
    injection h with h2 h3
    refine ⟨h3, ?_⟩
    rw [← h2, List.length_drop]
    omega
  · injection h with _ h
    injection h with _ h
    cases h
theorem rd_pos : ∀ (l : List UInt8) (i v k : Nat), 0 < i → rd i l = some (v, k) → 0 < v
  | [], _, _, _, _, h => by cases h
  | x :: l, i, v, k, hi, h => by
    rw [rd] at h
    split at h
    · split at h
      · cases h
      · rename_i h1
        injection h with h
        injection h with h _
        rw [← h]
        refine Nat.pos_of_ne_zero fun h0 => h1 (.inl ⟨hi, h0⟩)
    · split at h
      · cases h
      · obtain ⟨⟨v', k'⟩, hr, he⟩ := Option.map_eq_some_iff.1 h
        simp only [Prod.mk.injEq] at he
        have := rd_pos l (i + 1) v' k' (by omega) hr
        omega
theorem rdM_nil (bad : Bool) : rdM 96 [] bad = (0, [], true) := rfl
theorem rdM_small {x : UInt8} {l : List UInt8} (bad : Bool) (h : x.toNat ≤ 96) : rdM 96 (x :: l) bad = (x.toNat, l, bad) := by
  unfold rdM rd
  rw [if_pos (by omega), if_neg (by omega)]
  simp only [if_pos h, List.drop_succ_cons, List.drop_zero]
theorem rdM_big {x : UInt8} {l : List UInt8} (bad : Bool) (h : 96 < x.toNat) : rdM 96 (x :: l) bad = (0, [], true) := by
  unfold rdM
  cases hr : rd 0 (x :: l) with
  | none => rfl
  | some y =>
    obtain ⟨v, k⟩ := y
    have hv : ¬ v ≤ 96 := by
      rw [rd] at hr
      split at hr
      · rw [if_neg (by omega)] at hr
        injection hr with hr
        injection hr with hr _
        omega
      · rw [if_neg (by omega)] at hr
        obtain ⟨⟨v', k'⟩, hr', he⟩ := Option.map_eq_some_iff.1 hr
        simp only [Prod.mk.injEq] at he
        have := rd_pos l 1 v' k' (by omega) hr'
        omega
    simp only [if_neg hv]

/-- What is read row by row: the instructions, what is left, was it wrong. -/
structure GK where
  cs : List Cd
  l : List UInt8
  bad : Bool
def rowK (r : GK) : GK :=
  let x0 := rdN 1 r.l r.bad
  let x1 := rdN 1 x0.2.1 x0.2.2
  let x2 := rdN 1 x1.2.1 x1.2.2
  let x3 := rdN 1 x2.2.1 x2.2.2
  let x4 := rdN 4 x3.2.1 x3.2.2
  let x5 := rdN 4 x4.2.1 x4.2.2
  ⟨r.cs ++ [⟨x0.1, x1.1, x2.1, x3.1, IntKind.i32.wrap (x4.1 : Int), x5.1⟩], x5.2.1, x5.2.2⟩
def rowsK (l : List UInt8) (bad : Bool) : Nat → GK
  | 0 => ⟨[], l, bad⟩
  | k + 1 => rowK (rowsK l bad k)
theorem rowK_of {r : GK} {n0 n1 n2 n3 n4 n5 : Nat} {l0 l1 l2 l3 l4 l5 : List UInt8} {b0 b1 b2 b3 b4 b5 : Bool} (y0 : rdN 1 r.l r.bad = (n0, l0, b0)) (y1 : rdN 1 l0 b0 = (n1, l1, b1)) (y2 : rdN 1 l1 b1 = (n2, l2, b2)) (y3 : rdN 1 l2 b2 = (n3, l3, b3)) (y4 : rdN 4 l3 b3 = (n4, l4, b4)) (y5 : rdN 4 l4 b4 = (n5, l5, b5)) : rowK r = ⟨r.cs ++ [⟨n0, n1, n2, n3, IntKind.i32.wrap (n4 : Int), n5⟩], l5, b5⟩ := by
  unfold rowK
  simp only [y0, y1, y2, y3, y4, y5]
theorem rowsK_len (l : List UInt8) (bad : Bool) (k : Nat) : (rowsK l bad k).cs.length = k := by
  induction k with
  | zero => rfl
  | succ k ih => simp [rowsK, rowK, ih]
theorem rowK_good {r : GK} (h : (rowK r).bad = false) : r.bad = false ∧ r.l.length = 12 + (rowK r).l.length := by
  obtain ⟨n0, l0, b0, y0⟩ : ∃ n l b, rdN 1 r.l r.bad = (n, l, b) := ⟨_, _, _, rfl⟩
  obtain ⟨n1, l1, b1, y1⟩ : ∃ n l b, rdN 1 l0 b0 = (n, l, b) := ⟨_, _, _, rfl⟩
  obtain ⟨n2, l2, b2, y2⟩ : ∃ n l b, rdN 1 l1 b1 = (n, l, b) := ⟨_, _, _, rfl⟩
  obtain ⟨n3, l3, b3, y3⟩ : ∃ n l b, rdN 1 l2 b2 = (n, l, b) := ⟨_, _, _, rfl⟩
  obtain ⟨n4, l4, b4, y4⟩ : ∃ n l b, rdN 4 l3 b3 = (n, l, b) := ⟨_, _, _, rfl⟩
  obtain ⟨n5, l5, b5, y5⟩ : ∃ n l b, rdN 4 l4 b4 = (n, l, b) := ⟨_, _, _, rfl⟩
  rw [rowK_of y0 y1 y2 y3 y4 y5] at h ⊢
  simp only at h ⊢
  subst h
  obtain ⟨rfl, e5⟩ := rdN_good y5
  obtain ⟨rfl, e4⟩ := rdN_good y4
  obtain ⟨rfl, e3⟩ := rdN_good y3
  obtain ⟨rfl, e2⟩ := rdN_good y2
  obtain ⟨rfl, e1⟩ := rdN_good y1
  obtain ⟨e6, e0⟩ := rdN_good y0
  exact ⟨e6, by omega⟩
theorem rowsK_succ (l : List UInt8) (bad : Bool) (k : Nat) : rowsK l bad (k + 1) = rowK (rowsK l bad k) := rfl
theorem rowsK_good {l : List UInt8} {bad : Bool} (k : Nat) : (rowsK l bad k).bad = false → bad = false ∧ l.length = 12 * k + (rowsK l bad k).l.length := by
  induction k with
  | zero => exact fun h => ⟨h, by simp [rowsK]⟩
  | succ k ih =>
    rw [rowsK_succ]
    generalize rowsK l bad k = r at ih ⊢
    intro h
    obtain ⟨h1, h2⟩ := rowK_good h
    obtain ⟨h3, h4⟩ := ih h1
    generalize rowK r = s at h2 ⊢
    exact ⟨h3, by omega⟩
theorem valN_one {l : List UInt8} {i : Nat} (h : i < l.length) : valN ((l.drop i).take 1) = (l[i]).toNat := by
  rw [List.drop_eq_getElem_cons h, List.take_succ_cons, List.take_zero, valN_cons]
  simp [valN]
/-- A row of a list that is long enough. -/
theorem rowK_long {r : GK} (hb : r.bad = false) (hl : 12 ≤ r.l.length) : rowK r = ⟨r.cs ++ [⟨(r.l[0]'(by omega)).toNat, (r.l[1]'(by omega)).toNat, (r.l[2]'(by omega)).toNat, (r.l[3]'(by omega)).toNat, IntKind.i32.wrap ((valN ((r.l.drop 4).take 4) : Nat) : Int), valN ((r.l.drop 8).take 4)⟩], r.l.drop 12, false⟩ := by
  have y0 := rdN_yes (k := 1) (l := r.l) r.bad (by omega)
  have y1 := rdN_yes (k := 1) (l := r.l.drop 1) r.bad (by rw [List.length_drop]; omega)
  have y2 := rdN_yes (k := 1) (l := r.l.drop 2) r.bad (by rw [List.length_drop]; omega)
  have y3 := rdN_yes (k := 1) (l := r.l.drop 3) r.bad (by rw [List.length_drop]; omega)
  have y4 := rdN_yes (k := 4) (l := r.l.drop 4) r.bad (by rw [List.length_drop]; omega)
  have y5 := rdN_yes (k := 4) (l := r.l.drop 8) r.bad (by rw [List.length_drop]; omega)
  rw [List.drop_drop] at y1 y2 y3 y4 y5
  rw [rowK_of y0 y1 y2 y3 y4 y5, hb]
  have v0 := valN_one (l := r.l) (i := 0) (by omega)
  rw [List.drop_zero] at v0
  rw [v0, valN_one (l := r.l) (i := 1) (by omega), valN_one (l := r.l) (i := 2) (by omega), valN_one (l := r.l) (i := 3) (by omega)]
theorem rowsK_long {l : List UInt8} {n : Nat} (hl : 12 * n ≤ l.length) : ∀ k, k ≤ n → (rowsK l false k).l = l.drop (12 * k) ∧ (rowsK l false k).bad = false
  | 0, _ => ⟨rfl, rfl⟩
  | k + 1, hk => by
    obtain ⟨h1, h2⟩ := rowsK_long hl k (by omega)
    have h3 : 12 ≤ (rowsK l false k).l.length := by rw [h1, List.length_drop]; omega
    show (rowK _).l = _ ∧ (rowK _).bad = false
    rw [rowK_long h2 h3]
    refine ⟨?_, rfl⟩
    simp only [h1, List.drop_drop]
    congr 1
/-- All that is read. -/
structure PK where
  n : Nat
  g : GK
def gotK (p : List UInt8) : PK :=
  let x0 := rdM 96 p false
  ⟨x0.1, rowsK x0.2.1 x0.2.2 x0.1⟩
def PK.ok (q : PK) : Bool := decide (q.g.bad = false ∧ q.g.l = [])
theorem gotK_head {p : List UInt8} (h : 0 < p.length) (h96 : (p[0]'h).toNat ≤ 96) : gotK p = ⟨(p[0]'h).toNat, rowsK (p.drop 1) false (p[0]'h).toNat⟩ := by
  obtain ⟨x, t, rfl⟩ := List.exists_cons_of_length_pos h
  rw [List.getElem_cons_zero] at h96 ⊢
  unfold gotK
  rw [rdM_small false h96]
  rfl
theorem gotK_none {p : List UInt8} (h : p = [] ∨ ∃ x t, p = x :: t ∧ 96 < x.toNat) : (gotK p).ok = false := by
  rcases h with rfl | ⟨x, t, rfl, hx⟩
  · rfl
  · unfold gotK
    rw [rdM_big false hx]
    rfl
theorem gotK_off {p : List UInt8} (h : 0 < p.length) (h96 : (p[0]'h).toNat ≤ 96) (hn : p.length ≠ 1 + 12 * (p[0]'h).toNat) : (gotK p).ok = false := by
  unfold PK.ok
  rw [decide_eq_false]
  rintro ⟨h1, h2⟩
  rw [gotK_head h h96] at h1 h2
  simp only at h1 h2
  have e := (rowsK_good _ h1).2
  rw [h2, List.length_nil, List.length_drop] at e
  omega
theorem gotK_on {p : List UInt8} (h : 0 < p.length) (h96 : (p[0]'h).toNat ≤ 96) (hn : p.length = 1 + 12 * (p[0]'h).toNat) : (gotK p).ok = true := by
  obtain ⟨h1, h2⟩ := rowsK_long (l := p.drop 1) (n := (p[0]'h).toNat) (by rw [List.length_drop]; omega) _ (Nat.le_refl _)
  unfold PK.ok
  rw [decide_eq_true]
  rw [gotK_head h h96]
  refine ⟨h2, ?_⟩
  rw [h1]
  apply List.drop_eq_nil_of_le
  rw [List.length_drop]
  omega
theorem i32_uN {x : Int} (h0 : -2147483648 ≤ x) (h1 : x ≤ 2147483647) : IntKind.i32.wrap ((uN x : Nat) : Int) = x := by
  rw [IntKind.wrap_i32]
  unfold uN
  omega
theorem rowK_own (cs' : List Cd) (c : Cd) (r : List UInt8) (hc : c.Ok) : rowK ⟨cs', codeB c ++ r, false⟩ = ⟨cs' ++ [c], r, false⟩ := by
  have := hc.ho
  have := hc.ha
  have := hc.hb
  have := hc.hc
  have := hc.hm
  have e : codeB c ++ r = low c.op 1 ++ (low c.a 1 ++ (low c.b 1 ++ (low c.c 1 ++ (low (uN c.n) 4 ++ (low c.m 4 ++ r))))) := by simp [codeB]
  have y0 := rdN_low 1 c.op (low c.a 1 ++ (low c.b 1 ++ (low c.c 1 ++ (low (uN c.n) 4 ++ (low c.m 4 ++ r))))) false (by omega)
  have y1 := rdN_low 1 c.a (low c.b 1 ++ (low c.c 1 ++ (low (uN c.n) 4 ++ (low c.m 4 ++ r)))) false (by omega)
  have y2 := rdN_low 1 c.b (low c.c 1 ++ (low (uN c.n) 4 ++ (low c.m 4 ++ r))) false (by omega)
  have y3 := rdN_low 1 c.c (low (uN c.n) 4 ++ (low c.m 4 ++ r)) false (by omega)
  have y4 := rdN_low 4 (uN c.n) (low c.m 4 ++ r) false (uN_lt _)
  have y5 := rdN_low 4 c.m r false (by omega)
  rw [e]
  rw [rowK_of (r := ⟨cs', _, false⟩) y0 y1 y2 y3 y4 y5, i32_uN hc.n0 hc.n1]
theorem rowsK_own {cs : List Cd} (hok : okK cs) : ∀ k, k ≤ cs.length → rowsK (rowsB cs cs.length) false k = ⟨cs.take k, (cs.drop k).flatMap codeB, false⟩
  | 0, _ => by simp [rowsK, rowsB]
  | k + 1, hk => by
    have ih := rowsK_own hok k (by omega)
    show rowK _ = _
    rw [ih, List.drop_eq_getElem_cons (by omega), List.flatMap_cons, rowK_own _ _ _ (hok _ (List.getElem_mem _)), ← List.take_succ_eq_append_getElem (by omega)]
theorem num_one {n : Nat} (h : n ≤ 96) : num n = [UInt8.ofNat n] := by unfold num; rw [numF_small _ _ (by omega)]
/-- Instructions' own bytes come back. -/
theorem gotK_own {cs : List Cd} (hn : cs.length ≤ 96) (hok : okK cs) : gotK (codesB cs) = ⟨cs.length, ⟨cs, [], false⟩⟩ := by
  have e : codesB cs = UInt8.ofNat cs.length :: rowsB cs cs.length := by unfold codesB; rw [num_one hn]; rfl
  have e2 : (UInt8.ofNat cs.length).toNat = cs.length := by simp; omega
  unfold gotK
  rw [e, rdM_small false (by omega), e2]
  simp only [rowsK_own hok _ (Nat.le_refl _), List.take_length, List.drop_length, List.flatMap_nil]
end Go.Proofs.YtfckgfoimpileaaDoor
/- Steps on instructions, each by one closed fact (code's seat). Conditions: those said. -/
namespace Go.Proofs.YtfckgfoimpileaaDoor
open Go.RowKit

section
variable {ops : Array Oper} {S : World → Prop} {op : Oper} {a : Act}
theorem yk (v : Value) (hw : Region.wanted op (yielded ops a.tmps) = true) (h : ∀ w, (execOp a.eval op).run Tryd.prog w = .ok (.value v) w) : YieldsIf Tryd.prog ops S op v a := .inl ⟨hw, fun w _ => h w⟩
theorem yk_no (hw : Region.wanted op (yielded ops a.tmps) = false) : YieldsIf Tryd.prog ops S op undef a := .inr ⟨hw, rfl⟩
theorem yk_ldU (hw : Region.wanted op (yielded ops a.tmps) = true) (x : Operand) (ho : op.op = .load 5 x) (p : Addr) (v : Int) (hx : a.eval x = .pointer (some p)) (hS : ∀ w, S w → w.cell? p = some (.int .u8 v)) : YieldsIf Tryd.prog ops S op (.int .u8 v) a :=
  .inl ⟨hw, fun w h => by
    have hc := hS w h
    unfold execOp
    simp only [ho, hx]
    go_simp⟩
theorem yk_ldI (hw : Region.wanted op (yielded ops a.tmps) = true) (x : Operand) (ho : op.op = .load 21 x) (p : Addr) (v : Int) (hx : a.eval x = .pointer (some p)) (hS : ∀ w, S w → w.cell? p = some (.int .i32 v)) : YieldsIf Tryd.prog ops S op (.int .i32 v) a :=
  .inl ⟨hw, fun w h => by
    have hc := hS w h
    unfold execOp
    simp only [ho, hx]
    go_simp⟩
theorem yk_ldW (hw : Region.wanted op (yielded ops a.tmps) = true) (x : Operand) (ho : op.op = .load 30 x) (p : Addr) (v : Int) (hx : a.eval x = .pointer (some p)) (hS : ∀ w, S w → w.cell? p = some (.int .u32 v)) : YieldsIf Tryd.prog ops S op (.int .u32 v) a :=
  .inl ⟨hw, fun w h => by
    have hc := hS w h
    unfold execOp
    simp only [ho, hx]
    go_simp⟩
theorem yk_cvW (hw : Region.wanted op (yielded ops a.tmps) = true) (x : Operand) (ho : op.op = .convert 76 30 x) (y : Int) (hx : a.eval x = .int .u64 y) (hy : IntKind.u32.wrap y = y) : YieldsIf Tryd.prog ops S op (.int .u32 y) a :=
  .inl ⟨hw, fun w _ => by
    unfold execOp
    simp only [ho, hx]
    go_simp⟩
theorem yk_cvL (hw : Region.wanted op (yielded ops a.tmps) = true) (x : Operand) (ho : op.op = .convert 30 76 x) (y : Int) (hx : a.eval x = .int .u32 y) (hy : IntKind.u64.wrap y = y) : YieldsIf Tryd.prog ops S op (.int .u64 y) a :=
  .inl ⟨hw, fun w _ => by
    unfold execOp
    simp only [ho, hx]
    go_simp⟩
theorem yk_cvU (hw : Region.wanted op (yielded ops a.tmps) = true) (x : Operand) (ho : op.op = .convert 21 30 x) (y u : Int) (hx : a.eval x = .int .i32 y) (hy : IntKind.u32.wrap y = u) : YieldsIf Tryd.prog ops S op (.int .u32 u) a :=
  .inl ⟨hw, fun w _ => by
    subst hy
    unfold execOp
    simp only [ho, hx]
    go_simp⟩
variable {w : World} {K : Act → World → Prop} {Q : Exit → Act → World → Prop}
theorem wp_callF (f : FuncId) (args : Array Value) (hrun : (execOp a.eval op).run Tryd.prog w = .ok (.enter f args) w)
    (hc : Calls Tryd.prog f args w fun e w' => ∃ v, e = .returned v ∧ K (a.put op.dst v) w') : op.wp Tryd.prog a w K Q := by
  unfold Oper.wp
  rw [hrun, Oper.upon_enter]
  refine hc.mono fun e w'' hh => ?_
  obtain ⟨v, rfl, hk⟩ := hh
  exact hk
theorem wp_bsK (x : Operand) (ho : op.op = .buildSlice 28 1 #[(0, x)]) (c : Cd) (hx : a.eval x = .agg (cdA c))
    (h : K (a.put op.dst (.slice (some ⟨w.heap.size, 0, none⟩) 1 1)) (w.alloc (.cells (cdA c) 55))) : op.wp Tryd.prog a w K Q := by
  have hr : (Instr.buildSlice 28 1 #[(0, .agg (cdA c))]).run Tryd.prog w = .ok (.slice (some ⟨w.heap.size, 0, none⟩) 1 1) (w.alloc (.cells (cdA c) 55)) := by kernel_rfl
  unfold Oper.wp execOp
  simp only [ho, List.map_toArray, List.map_cons, List.map_nil, hx, Sem.run_bind, hr, Result.andThen_ok, Sem.run_pure]
  exact h
theorem wp_appKr (s x : Operand) (ho : op.op = .call { callee := .builtin .append, args := #[s, x], argTypes := #[28, 28] })
    (B : Nat) (v : Value) (L : List Cd) (hs : a.eval s = v) (hown : RowK 55 w B v L)
    (b : Nat) (A : Option Addr) (m c : Nat) (M : List Cd) (hx : a.eval x = .slice A m c) (hr : Sl w b A (kv M)) (hm : M.length = m)
    (hlen : L.length + m ≤ 1000000) (hbase : B ≤ w.heap.size)
    (h : ∀ v' w', RowK 55 w' B v' (L ++ M) → Mod (fun i => v.ownBlock = some i) w w' → K (a.put op.dst v') w') : op.wp Tryd.prog a w K Q := by
  obtain ⟨i0, hi0, hz0, hz1, hz2⟩ := info_parts codeR_info
  refine wp_append_sl (P := Tryd.prog) w s x _ ho B 55 i0 _ 6 12 Tryd.underlying28 hi0 hz0 hz1 hz2 rfl (by omega) v L.length (kv L) hs hown b A m c (kv M) hx hr (by simp [hm]) (fun hA => by have := Sl.none_len hr rfl hA; simp at this; omega) (kv_one _)
    (by simp only [maxLen]; omega) (by omega) hbase ?_
  intro v' w' h1 h2 _
  exact h v' w' (by unfold RowK; rw [List.length_append, hm, kv_append]; exact h1) (Mod.of_grown h2)
theorem wp_bs4 (x y z t : Operand) (ho : op.op = .buildSlice 47 4 #[(0, x), (1, y), (2, z), (3, t)]) (A1 : Option Addr) (n1 c1 : Nat) (A2 : Option Addr) (n2 c2 : Nat) (A3 : Option Addr) (n3 c3 : Nat) (A4 : Option Addr) (n4 c4 : Nat) (hx : a.eval x = .slice A1 n1 c1) (hy : a.eval y = .slice A2 n2 c2) (hz : a.eval z = .slice A3 n3 c3) (ht : a.eval t = .slice A4 n4 c4)
    (h : K (a.put op.dst (.slice (some ⟨w.heap.size, 0, none⟩) 4 4)) (w.alloc (.cells #[.slice A1 n1 c1, .slice A2 n2 c2, .slice A3 n3 c3, .slice A4 n4 c4] 36))) : op.wp Tryd.prog a w K Q := by
  have hr : (Instr.buildSlice 47 4 #[(0, .slice A1 n1 c1), (1, .slice A2 n2 c2), (2, .slice A3 n3 c3), (3, .slice A4 n4 c4)]).run Tryd.prog w = .ok (.slice (some ⟨w.heap.size, 0, none⟩) 4 4) (w.alloc (.cells #[.slice A1 n1 c1, .slice A2 n2 c2, .slice A3 n3 c3, .slice A4 n4 c4] 36)) := by kernel_rfl
  unfold Oper.wp execOp
  simp only [ho, List.map_toArray, List.map_cons, List.map_nil, hx, hy, hz, ht, Sem.run_bind, hr, Result.andThen_ok, Sem.run_pure]
  exact h
theorem wp_bsB4 (x y z t : Operand) (ho : op.op = .buildSlice 36 4 #[(0, x), (1, y), (2, z), (3, t)]) (i j k l : Int) (hx : a.eval x = .int .u8 i) (hy : a.eval y = .int .u8 j) (hz : a.eval z = .int .u8 k) (ht : a.eval t = .int .u8 l)
    (h : K (a.put op.dst (.slice (some ⟨w.heap.size, 0, none⟩) 4 4)) (w.alloc (.cells #[.int .u8 i, .int .u8 j, .int .u8 k, .int .u8 l] 5))) : op.wp Tryd.prog a w K Q := by
  have hr : (Instr.buildSlice 36 4 #[(0, .int .u8 i), (1, .int .u8 j), (2, .int .u8 k), (3, .int .u8 l)]).run Tryd.prog w = .ok (.slice (some ⟨w.heap.size, 0, none⟩) 4 4) (w.alloc (.cells #[.int .u8 i, .int .u8 j, .int .u8 k, .int .u8 l] 5)) := by kernel_rfl
  unfold Oper.wp execOp
  simp only [ho, List.map_toArray, List.map_cons, List.map_nil, hx, hy, hz, ht, Sem.run_bind, hr, Result.andThen_ok, Sem.run_pure]
  exact h
end
theorem bs_atK {w : World} {b off : Nat} {l : List UInt8} (h : Bs w b (some ⟨b, off, none⟩) l) {k : Nat} (hk : k < l.length) : w.cell? ⟨b, off + k, none⟩ = some (.int .u8 (l[k].toNat : Int)) := by
  obtain ⟨off', e, h1⟩ := Bs.at_ h hk
  injection e with e
  injection e with _ e _
  subst e
  exact h1 k hk
theorem bs_sub {w : World} {b off : Nat} {l : List UInt8} (h : Bs w b (some ⟨b, off, none⟩) l) (i m : Nat) : Bs w b (some ⟨b, off + i, none⟩) ((l.drop i).take m) := fun hx => by
  have hl : bv l ≠ [] := by
    rintro h0
    rw [bv_nil_iff] at h0
    subst h0
    simp at hx
  obtain ⟨off', e, hc⟩ := h hl
  injection e with e
  injection e with _ e _
  subst e
  refine ⟨off + i, rfl, fun j u hu => ?_⟩
  rw [Nat.add_assoc]
  refine hc (i + j) u ?_
  rw [← bv_take, ← bv_drop, List.getElem?_take] at hu
  split at hu
  · rw [← hu, List.getElem?_drop]
  · cases hu
theorem bs_drop {w : World} {b off : Nat} {l : List UInt8} (h : Bs w b (some ⟨b, off, none⟩) l) (i : Nat) : Bs w b (some ⟨b, off + i, none⟩) (l.drop i) := by
  have := bs_sub h i (l.drop i).length
  rwa [List.take_length] at this
theorem rowsK_nil {l : List UInt8} (bad : Bool) (h : l = []) : ∀ k, (rowsK l bad k).l = []
  | 0 => h
  | k + 1 => by
    have h0 := rowsK_nil bad h k
    show (rowK (rowsK l bad k)).l = []
    obtain ⟨n0, l0, b0, y0⟩ : ∃ n l' b, rdN 1 (rowsK l bad k).l (rowsK l bad k).bad = (n, l', b) := ⟨_, _, _, rfl⟩
    obtain ⟨n1, l1, b1, y1⟩ : ∃ n l b, rdN 1 l0 b0 = (n, l, b) := ⟨_, _, _, rfl⟩
    obtain ⟨n2, l2, b2, y2⟩ : ∃ n l b, rdN 1 l1 b1 = (n, l, b) := ⟨_, _, _, rfl⟩
    obtain ⟨n3, l3, b3, y3⟩ : ∃ n l b, rdN 1 l2 b2 = (n, l, b) := ⟨_, _, _, rfl⟩
    obtain ⟨n4, l4, b4, y4⟩ : ∃ n l b, rdN 4 l3 b3 = (n, l, b) := ⟨_, _, _, rfl⟩
    obtain ⟨n5, l5, b5, y5⟩ : ∃ n l b, rdN 4 l4 b4 = (n, l, b) := ⟨_, _, _, rfl⟩
    rw [rowK_of y0 y1 y2 y3 y4 y5]
    exact rdN_nil y5 (rdN_nil y4 (rdN_nil y3 (rdN_nil y2 (rdN_nil y1 (rdN_nil y0 h0)))))
end Go.Proofs.YtfckgfoimpileaaDoor
/- code.Parse of any bytes. Conditions: those said. -/
namespace Go.Proofs.YtfckgfoimpileaaDoor
open Go.RowKit
set_option linter.unusedVariables false

/-- What holds in the loop. -/
structure FK (w : World) (g be wB : Nat) (l : List UInt8) (bad : Bool) (W : World) (v : Value) (cs : List Cd) : Prop where
  e : EyeAt W g be l bad
  r : RowK 33 W wB v cs
  bl : Below w.heap.size w W
  zB : wB ≤ W.heap.size
  n : g < wB ∧ w.heap.size ≤ g ∧ w.heap.size ≤ wB
namespace FK
variable {w W W' : World} {g be wB : Nat} {l l' : List UInt8} {bad bad' : Bool} {v v' : Value} {cs cs' : List Cd}
theorem ext (f : FK w g be wB l bad W v cs) (x : Below W.heap.size W W') : FK w g be wB l bad W' v cs := ⟨f.e.ext x, f.r.ext x, f.bl.trans (x.mono f.bl.size), Nat.le_trans f.zB x.size, f.n⟩
theorem eye (f : FK w g be wB l bad W v cs) (e : EyeAt W' g be l' bad') (hm : Mod (fun i => i = g) W W') : FK w g be wB l' bad' W' v cs :=
  have n := f.n
  ⟨e, owns_modK f.r hm (fun i hi h => by have := (World.ownsRow.lt f.r i hi).1; omega), f.bl.trans (hm.below (B := w.heap.size) f.bl.size (fun i hi h => by omega)), Nat.le_trans f.zB hm.size, n⟩
theorem app (f : FK w g be wB l bad W v cs) (r : RowK 33 W' wB v' cs') (hm : Mod (fun i => v.ownBlock = some i) W W') (hbe : l ≠ [] → be < wB) : FK w g be wB l bad W' v' cs' :=
  have n := f.n
  have hl := fun i h => (World.ownsRow.lt f.r i h).1
  ⟨f.e.modne hm (fun h => by have := hl _ h; omega) (fun hne h => by have := hl _ h; have := hbe hne; omega), r, f.bl.trans (hm.below (B := w.heap.size) f.bl.size (fun i hi h => by have := hl _ h; omega)), Nat.le_trans f.zB hm.size, n⟩
end FK
set_option maxHeartbeats 16000000 in
set_option maxRecDepth 40000 in
theorem KParse_any (A : Option Addr) (p : List UInt8) (n c b : Nat) (w : World) (hs : Bs w b A p) (hn : p.length = n) (hm : n ≤ 100000) (C0 : List Cd) (E0 : Nat)
    (hR : (C0, E0) = if (gotK p).ok then ((gotK p).g.cs, 0) else ([], 2)) :
    Calls Tryd.prog 19 #[.slice A n c] w fun e w' => ∃ v, e = .returned (.tuple #[v, .int .i64 (E0 : Int)]) ∧ RowK 33 w' w.heap.size v C0 ∧ Below w.heap.size w w' := by
  have HR := Lib.hid hR
  clear hR
  go_enter Tryd.func19, Tryd.ntmps19
  go_wp2_with fail
  refine (Read_calls A p n c b _ hs hn (by omega)).mono ?_
  rintro e w3 ⟨g, be, rfl, hE, hg, hbe, hb⟩
  have hbl : p ≠ [] → be < w3.heap.size := fun h0 => by
    obtain ⟨_, Ae, ce, _, _, _, k4⟩ := id hE
    exact Bs.lt k4 h0
  have hgl := hE.lt
  clear hs hn hbe
  go_wp2_with fail
  refine (EyeNum_f g be p false 96 _ hE (by omega)).mono ?_
  rintro e w4 ⟨N, l0, x0, rfl, y0, hN, hE, h1⟩
  have HG : Hid (gotK p = ⟨N, rowsK l0 x0 N⟩) := Lib.hid (by unfold gotK; rw [y0])
  have hln : p = [] → l0 = [] := fun h0 => by
    subst h0
    rw [rdM_nil] at y0
    injection y0 with _ y0
    injection y0 with y0 _
    exact y0.symm
  have hl0 : l0 ≠ [] → be < w3.heap.size := fun h0 => hbl fun h1 => h0 (hln h1)
  replace hb := hb.trans (h1.below hb.size (fun i hi e => by omega))
  have h34 := h1.size
  obtain ⟨wB, hwB⟩ : ∃ wB, wB = w4.heap.size := ⟨_, rfl⟩
  have hzB : wB ≤ w4.heap.size := by omega
  have hbe : ∀ k, (rowsK l0 x0 k).l ≠ [] → be < wB := fun k h0 => by
    have := hl0 fun h1 => h0 (rowsK_nil x0 h1 k)
    omega
  have f : FK w g be wB l0 x0 w4 (.slice none 0 0) [] := ⟨hE, RowK.nil_ _ _ _, hb, hzB, ⟨by omega, by omega, by have := hb.size; omega⟩⟩
  have HBE := Lib.hid hbe
  clear h1 y0 hE hb hwB hzB hbl hgl hg hln hl0 h34 hbe
  go_wp2_with fail
  go_loopw [5, 10] (fun v i wr => ∃ k : Nat, k ≤ N ∧ i = .int .u64 (k : Int) ∧ FK w g be wB (rowsK l0 x0 k).l (rowsK l0 x0 k).bad wr v (rowsK l0 x0 k).cs) (fun _ i _ => N - (intOf i).toNat)
  case atStart => exact ⟨0, Nat.zero_le _, rfl, f⟩
  case round =>
    clear f
    obtain ⟨k, hk, rfl, f⟩ := hrel
    rename_i v0 _
    have HL := Lib.hid (rowsK_len l0 x0 k)
    by_cases hlt : k < N
    · have HS : Hid (rowsK l0 x0 (k + 1) = rowK (rowsK l0 x0 k)) := Lib.hid rfl
      have HB1 := Lib.hid (HBE.out (k + 1))
      obtain ⟨R, hRk⟩ : ∃ R, R = rowsK l0 x0 k := ⟨_, rfl⟩
      rw [← hRk] at f HS HL
      clear hRk
      have ej : (k : Int) < (N : Int) := by omega
      go_wp2_with fail
      refine (EyeByte_f g be R.l R.bad _ f.e).mono ?_
      rintro e w10 ⟨n0, l6, x6, rfl, z0, hn0, hE, h1⟩
      replace f := f.eye hE h1
      clear hE h1
      go_wp2_with fail
      refine (EyeByte_f g be l6 x6 _ f.e).mono ?_
      rintro e w11 ⟨n1, l1, x1, rfl, z1, hn1, hE, h1⟩
      replace f := f.eye hE h1
      clear hE h1
      go_wp2_with fail
      refine (EyeByte_f g be l1 x1 _ f.e).mono ?_
      rintro e w12 ⟨n2, l2, x2, rfl, z2, hn2, hE, h1⟩
      replace f := f.eye hE h1
      clear hE h1
      go_wp2_with fail
      refine (EyeByte_f g be l2 x2 _ f.e).mono ?_
      rintro e w13 ⟨n3, l3, x3, rfl, z3, hn3, hE, h1⟩
      replace f := f.eye hE h1
      clear hE h1
      go_wp2_with fail
      refine (EyeWord_f g be l3 x3 _ f.e).mono ?_
      rintro e w14 ⟨n4, l4, x4, rfl, z4, hn4, hE, h1⟩
      replace f := f.eye hE h1
      clear hE h1
      go_wp2_with fail
      refine (EyeWord_f g be l4 x4 _ f.e).mono ?_
      rintro e w15 ⟨n5, l5, x5, rfl, z5, hn5, hE, h1⟩
      replace f := f.eye hE h1
      clear hE h1
      have HRK := Lib.hid (rowK_of z0 z1 z2 z3 z4 z5)
      have hbe5 : Hid (l5 ≠ [] → be < wB) := Lib.hid (by have := HB1.out; rw [HS.out, HRK.out] at this; exact this)
      have hcw : IntKind.i32.wrap (n4 : Int) = wrap32 (n4 : Int) := IntWalk.i32_left _
      have hsn := sl_new w15 (kv [⟨n0, n1, n2, n3, IntKind.i32.wrap (n4 : Int), n5⟩]) 33
      rw [show (kv [⟨n0, n1, n2, n3, IntKind.i32.wrap (n4 : Int), n5⟩]).toArray = #[.int .u8 (n0 : Int), .int .u8 (n1 : Int), .int .u8 (n2 : Int), .int .u8 (n3 : Int), .int .i32 (wrap32 (n4 : Int)), .int .u32 (n5 : Int)] by rw [← hcw]; rfl] at hsn
      have ha := below_alloc1 w15 (.cells #[.int .u8 (n0 : Int), .int .u8 (n1 : Int), .int .u8 (n2 : Int), .int .u8 (n3 : Int), .int .i32 (wrap32 (n4 : Int)), .int .u32 (n5 : Int)] 33)
      have f2 := f.ext ha
      have HLL := Lib.hid (show R.cs.length + 1 ≤ 1000000000000 by have := HL.out; omega)
      have hw64 : IntKind.u64.wrap ((k : Int) + 1) = ((k + 1 : Nat) : Int) := by rw [IntKind.wrap_u64]; omega
      clear hcw
      go_wp2_with ((with_reducible refine at_ca 28 _ ?_); refine wpList_appK _ Tryd.underlying22 codeB_info rfl (.tmp 12) (.tmp 27) rfl wB _ R.cs rfl f2.r _ (some ⟨_, 0, none⟩) 1 1 [⟨n0, n1, n2, n3, IntKind.i32.wrap (n4 : Int), n5⟩] rfl hsn rfl HLL.out f2.zB ?_; intro v' w16 hrow hmod hat; replace f2 := f2.app hrow hmod hbe5.out)
      go_roundw
      case rel => exact ⟨k + 1, by omega, by go_num, by rw [HS.out, HRK.out]; exact f2⟩
      case measure => simp [intOf]; omega
    · obtain rfl : k = N := by omega
      obtain ⟨R, hRk⟩ : ∃ R, R = rowsK l0 x0 k := ⟨_, rfl⟩
      rw [← hRk] at f HL HG
      obtain ⟨dn, hdn⟩ : ∃ dn, dn = doneErr R.l R.bad := ⟨_, rfl⟩
      have DC := Done_calls g be R.l R.bad wr f.e
      rw [← hdn] at DC
      obtain ⟨za, hza⟩ : ∃ z, z = (dn != 0) := ⟨_, rfl⟩
      have HOK : Hid ((gotK p).ok = !za) := Lib.hid (by
        rw [HG.out, PK.ok]
        simp only
        rw [hza, hdn, doneErr, Bool.eq_iff_iff]
        by_cases h : R.bad = true ∨ R.l ≠ []
        · rw [if_pos h]
          cases hbd : R.bad <;> simp [hbd] at h ⊢
          exact h
        · rw [if_neg h]
          cases hbd : R.bad <;> simp [hbd] at h ⊢
          exact h)
      have HCS : Hid ((gotK p).g.cs = R.cs) := Lib.hid (by rw [HG.out])
      have hza' := hza.symm
      clear hza hdn hRk HG
      go_wp2_with fail
      refine DC.mono ?_
      rintro e w15 ⟨rfl, rfl⟩
      clear DC
      have hr := HR.out
      rw [HOK.out, HCS.out] at hr
      have HR2 := Lib.hid hr
      clear hr HR
      cases za with
      | true =>
        go_wp2_with fail
        go_ret2
        have hr := HR2.out
        simp only [Bool.not_true, Bool.false_eq_true, if_false, Prod.mk.injEq] at hr
        obtain ⟨rfl, rfl⟩ := hr
        exact ⟨_, rfl, RowK.nil_ _ _ _, f.bl⟩
      | false =>
        go_wp2_with fail
        go_ret2
        have hr := HR2.out
        simp only [Bool.not_false, if_true, Prod.mk.injEq] at hr
        obtain ⟨rfl, rfl⟩ := hr
        exact ⟨_, rfl, own_lowK f.r f.n.2.2, f.bl⟩
end Go.Proofs.YtfckgfoimpileaaDoor
/- The document's Parse of any bytes. Conditions: those said. -/
namespace Go.Proofs.YtfckgfoimpileaaDoor
open Go.RowKit
set_option linter.unusedVariables false

set_option maxHeartbeats 4000000 in
set_option maxRecDepth 20000 in
theorem RKParse_nil (A : Option Addr) (c : Nat) (w : World) : Calls Tryd.prog 24 #[.slice A 0 c] w fun e w' => e = .returned (.tuple #[.slice none 0 0, .bool false]) ∧ Below w.heap.size w w' := by
  go_enter Tryd.func24, Tryd.ntmps24
  go_wp2_with fail
  go_ret2
  exact ⟨rfl, Below.refl _ _⟩
set_option maxHeartbeats 4000000 in
set_option maxRecDepth 20000 in
theorem RKParse_big (b off : Nat) (p : List UInt8) (n c : Nat) (w : World) (hs : Bs w b (some ⟨b, off, none⟩) p) (hn : p.length = n) (h0 : 0 < n) (hbig : 96 < (p[0]'(by omega)).toNat) : Calls Tryd.prog 24 #[.slice (some ⟨b, off, none⟩) n c] w fun e w' => e = .returned (.tuple #[.slice none 0 0, .bool false]) ∧ Below w.heap.size w w' := by
  have g0 := bs_atK hs (k := 0) (by omega)
  obtain ⟨P, hP⟩ : ∃ P, P = (p[0]'(by omega)).toNat := ⟨_, rfl⟩
  rw [← hP] at g0 hbig
  simp only [Nat.add_zero] at g0
  have e1 : ((n : Int) == 0) = false := by simp; omega
  have e2 : decide ((P : Int) > 96) = true := by simp; omega
  have e3 : (0 : Int) < (n : Int) := by omega
  have e4 : (96 : Int) < (P : Int) := by omega
  clear hs hn hP
  go_enter Tryd.func24, Tryd.ntmps24
  go_wp2_with fail
  go_ret2
  exact ⟨rfl, Below.refl _ _⟩
set_option maxHeartbeats 4000000 in
set_option maxRecDepth 20000 in
theorem RKParse_off (b off : Nat) (p : List UInt8) (n c : Nat) (w : World) (hs : Bs w b (some ⟨b, off, none⟩) p) (hn : p.length = n) (h0 : 0 < n) (h96 : (p[0]'(by omega)).toNat ≤ 96) (hoff : n ≠ 1 + 12 * (p[0]'(by omega)).toNat) : Calls Tryd.prog 24 #[.slice (some ⟨b, off, none⟩) n c] w fun e w' => e = .returned (.tuple #[.slice none 0 0, .bool false]) ∧ Below w.heap.size w w' := by
  have g0 := bs_atK hs (k := 0) (by omega)
  obtain ⟨P, hP⟩ : ∃ P, P = (p[0]'(by omega)).toNat := ⟨_, rfl⟩
  rw [← hP] at g0 h96 hoff
  simp only [Nat.add_zero] at g0
  have e1 : ((n : Int) == 0) = false := by simp; omega
  have e2 : decide ((P : Int) > 96) = false := by simp; omega
  have e3 : (0 : Int) < (n : Int) := by omega
  have e4 : ((n : Int) != 1 + 12 * (P : Int)) = true := by simp; omega
  clear hs hn hP
  go_enter Tryd.func24, Tryd.ntmps24
  go_wp2_with fail
  go_ret2
  exact ⟨rfl, Below.refl _ _⟩
set_option maxHeartbeats 16000000 in
set_option maxRecDepth 40000 in
theorem RKParse_on (b off : Nat) (p : List UInt8) (n c N : Nat) (w : World) (hs : Bs w b (some ⟨b, off, none⟩) p) (hn : p.length = n) (hnc : n ≤ c) (h0 : 0 < n) (hN : N = (p[0]'(by omega)).toNat) (h96 : N ≤ 96) (hon : n = 1 + 12 * N) (C0 : List Cd) (hC : C0 = (gotK p).g.cs) :
    Calls Tryd.prog 24 #[.slice (some ⟨b, off, none⟩) n c] w fun e w' => ∃ v, e = .returned (.tuple #[v, .bool true]) ∧ RowK 55 w' w.heap.size v C0 ∧ Below w.heap.size w w' := by
  have g0 := bs_atK hs (k := 0) (by omega)
  rw [← hN] at g0
  simp only [Nat.add_zero] at g0
  have hG := gotK_head (p := p) (by omega) (by omega)
  rw [← hN] at hG
  rw [hG] at hC
  simp only at hC
  have hbl : b < w.heap.size := Bs.lt hs (by rintro rfl; simp at hn; omega)
  have hlong := rowsK_long (l := p.drop 1) (n := N) (by rw [List.length_drop]; omega)
  have e1 : ((n : Int) == 0) = false := by simp; omega
  have e2 : decide ((N : Int) > 96) = false := by simp; omega
  have e3 : (0 : Int) < (n : Int) := by omega
  have e4 : ((n : Int) != 1 + 12 * (N : Int)) = false := by simp; omega
  have e5 : (1 : Int) ≤ (n : Int) := by omega
  have HC := Lib.hid hC
  have HLO := Lib.hid hlong
  have HPN := Lib.hid hn
  have HON := Lib.hid hon
  have hs1 := bs_drop hs 1
  have hb := Below.refl w.heap.size w
  by_cases h1c : c = 1
  · have hn1 : n = 1 := by omega
    obtain rfl : N = 0 := by omega
    subst h1c hn1
    clear hG hC hlong hN hn hon hs
    go_enter Tryd.func24, Tryd.ntmps24
    go_wp2_with fail
    go_loopw [4, 5] (fun v4 v5 wr => v4 = .slice none 0 0 ∧ v5 = .slice (some ⟨b, off, none⟩) 0 0 ∧ wr = w) (fun _ _ _ => 0)
    case atStart => exact ⟨rfl, rfl, rfl⟩
    case round =>
      obtain ⟨rfl, rfl, rfl⟩ := hrel
      go_wp2_with fail
      go_ret2
      exact ⟨_, rfl, by rw [HC.out]; exact RowK.nil_ _ _ _, Below.refl _ _⟩
  · clear hG hC hlong hN hn hon hs
    go_enter Tryd.func24, Tryd.ntmps24
    go_wp2_with fail
    clear g0 e1 e2 e3 e4 e5
    go_loopw [4, 5] (fun v4 v5 wr => ∃ (k m c5 : Nat) (A5 : Option Addr) (vo : Value), vo = v4 ∧ k ≤ N ∧ v5 = .slice A5 m c5 ∧ m = 12 * (N - k) ∧ m ≤ c5 ∧ Bs wr b A5 (rowsK (p.drop 1) false k).l ∧ RowK 55 wr w.heap.size vo (rowsK (p.drop 1) false k).cs ∧ Below w.heap.size w wr) (fun _ v5 _ => (match v5 with | .slice _ m _ => m | _ => 0))
    case atStart => exact ⟨0, n - 1, c - 1, _, _, rfl, Nat.zero_le _, rfl, by have := HON.out; omega, by omega, hs1, RowK.nil_ _ _ _, hb⟩
    case round =>
      clear hs1 hb
      obtain ⟨k, m, c5, A5, vo, rfl, hk, rfl, hm, hmc, hs5, hr, hb⟩ := hrel
      have hm1 := Nat.le_of_eq hm
      have hm2 := Nat.le_of_eq hm.symm
      clear hm
      have HL := Lib.hid (rowsK_len (p.drop 1) false k)
      have HLK := Lib.hid (HLO.out k hk)
      by_cases hlt : k < N
      · have HS : Hid (rowsK (p.drop 1) false (k + 1) = rowK (rowsK (p.drop 1) false k)) := Lib.hid rfl
        obtain ⟨R, hRk⟩ : ∃ R, R = rowsK (p.drop 1) false k := ⟨_, rfl⟩
        rw [← hRk] at hs5 hr HS HL HLK
        clear hRk
        have hRl : R.l.length = m := by rw [HLK.out.1, List.length_drop, List.length_drop, HPN.out]; have := HON.out; omega
        have hm12 : 12 ≤ m := by omega
        have HD := Lib.hid (rowK_long (r := R) HLK.out.2 (by omega))
        obtain ⟨off5, rfl, -⟩ := Bs.at_ hs5 (k := 0) (by omega)
        obtain ⟨n0, hn0⟩ : ∃ n, n = (R.l[0]'(by omega)).toNat := ⟨_, rfl⟩
        have HN0 := Lib.hid hn0
        rw [← hn0] at HD
        clear hn0
        obtain ⟨n1, hn1⟩ : ∃ n, n = (R.l[1]'(by omega)).toNat := ⟨_, rfl⟩
        have HN1 := Lib.hid hn1
        rw [← hn1] at HD
        clear hn1
        obtain ⟨n2, hn2⟩ : ∃ n, n = (R.l[2]'(by omega)).toNat := ⟨_, rfl⟩
        have HN2 := Lib.hid hn2
        rw [← hn2] at HD
        clear hn2
        obtain ⟨n3, hn3⟩ : ∃ n, n = (R.l[3]'(by omega)).toNat := ⟨_, rfl⟩
        have HN3 := Lib.hid hn3
        rw [← hn3] at HD
        clear hn3
        obtain ⟨n4, hn4⟩ : ∃ n4, n4 = valN ((R.l.drop 4).take 4) := ⟨_, rfl⟩
        obtain ⟨n5, hn5⟩ : ∃ n5, n5 = valN ((R.l.drop 8).take 4) := ⟨_, rfl⟩
        have hn4l : n4 < 4294967296 := by
          have := valN_lt ((R.l.drop 4).take 4)
          rwa [← hn4, List.length_take, List.length_drop, Nat.min_eq_left (by omega)] at this
        have hn5l : n5 < 4294967296 := by
          have := valN_lt ((R.l.drop 8).take 4)
          rwa [← hn5, List.length_take, List.length_drop, Nat.min_eq_left (by omega)] at this
        rw [← hn4, ← hn5] at HD
        have hV1 := fun W hs' => Value_calls (some ⟨b, off5 + 4, none⟩) ((R.l.drop 4).take 4) 4 (c5 - 4) b W hs' (by rw [List.length_take, List.length_drop]; omega) (by omega)
        have hV2 := fun W hs' => Value_calls (some ⟨b, off5 + 8, none⟩) ((R.l.drop 8).take 4) 4 (c5 - 8) b W hs' (by rw [List.length_take, List.length_drop]; omega) (by omega)
        rw [← hn4] at hV1
        rw [← hn5] at hV2
        have hcx4 : IntKind.u32.wrap (n4 : Int) = (n4 : Int) := IntWalk.u32_in _ (by omega)
        have hcx5 : IntKind.u32.wrap (n5 : Int) = (n5 : Int) := IntWalk.u32_in _ (by omega)
        have ej : decide ((m : Int) > 0) = true := by simp; omega
        have i0 : (0 : Int) < (m : Int) := by omega
        have i1 : (1 : Int) < (m : Int) := by omega
        have i2 : (2 : Int) < (m : Int) := by omega
        have i3 : (3 : Int) < (m : Int) := by omega
        have d8 : (8 : Int) ≤ (c5 : Int) := by omega
        have d12 : (12 : Int) ≤ (c5 : Int) := by omega
        have d12m : (12 : Int) ≤ (m : Int) := by omega
        have dn4 : ¬ c5 = 4 := by omega
        have dn8 : ¬ c5 = 8 := by omega
        clear hn4 hn5
        go_upto_region 7 with fail
        clear ej
        go_wp2_with fail
        refine wp_region_E (fun j => false) (fun w9 => Bs w9 b (some ⟨b, off5, none⟩) R.l) (by kernel_rfl) ?_ (fun hHeld => ?_)
        · exact (by first | exact hs5 | exact Sl.ext hs5 (below_drew (Below.refl _ _)))
        obtain ⟨wd1', hwd⟩ : ∃ wd1', wd1' = World.drew wr := ⟨_, rfl⟩
        have h9 : Below wr.heap.size wr wd1' := by rw [hwd]; exact below_drew (Below.refl _ _)
        rw [← hwd] at hHeld ⊢
        clear hwd
        replace hs5 := Sl.ext hs5 h9
        replace hr := RowK.ext hr h9
        replace hb := hb.trans (h9.mono hb.size)
        clear h9
        refine wpAnyE_take (i := 0) (by simp only [List.getElem?_toArray]; rfl) (by kernel_rfl) (by kernel_rfl) (by kernel_rfl) (by kernel_rfl) (by kernel_rfl) (by exact fun _ _ _ h => h) (by exact yk (vo) (by kernel_rfl) (fun _ => by kernel_rfl)) hHeld ?_
        refine wpAnyE_take (i := 1) (by simp only [List.getElem?_toArray]; rfl) (by kernel_rfl) (by kernel_rfl) (by kernel_rfl) (by kernel_rfl) (by kernel_rfl) (by exact fun _ _ _ h => h) (by exact yk (.slice (some ⟨b, off5, none⟩) m c5) (by kernel_rfl) (fun _ => by kernel_rfl)) hHeld ?_
        refine wpAnyE_take (i := 2) (v := .pointer (some ⟨b, off5, none⟩)) (by simp only [List.getElem?_toArray]; rfl) (by kernel_rfl) (by kernel_rfl) (by kernel_rfl) (by kernel_rfl) (by kernel_rfl) (by exact fun _ _ _ h => h) (.inl ⟨by kernel_rfl, fun ww hSw => by clear hSw; go_simp⟩) hHeld ?_
        refine wpAnyE_take (i := 3) (by simp only [List.getElem?_toArray]; rfl) (by kernel_rfl) (by kernel_rfl) (by kernel_rfl) (by kernel_rfl) (by kernel_rfl) (by exact fun _ _ _ h => h) (by exact yk_ldU (by kernel_rfl) (.tmp 35) rfl ⟨b, off5, none⟩ (n0 : Int) (by kernel_rfl) (fun w hh => (bs_atK hh (k := 0) (by omega)).trans (by rw [HN0.out]))) hHeld ?_
        refine wpAnyE_take (i := 4) (by simp only [List.getElem?_toArray]; rfl) (by kernel_rfl) (by kernel_rfl) (by kernel_rfl) (by kernel_rfl) (by kernel_rfl) (by exact fun _ _ _ h => h) (by exact yk (.slice (some ⟨b, off5, none⟩) m c5) (by kernel_rfl) (fun _ => by kernel_rfl)) hHeld ?_
        refine wpAnyE_take (i := 5) (v := .pointer (some ⟨b, off5 + 1, none⟩)) (by simp only [List.getElem?_toArray]; rfl) (by kernel_rfl) (by kernel_rfl) (by kernel_rfl) (by kernel_rfl) (by kernel_rfl) (by exact fun _ _ _ h => h) (.inl ⟨by kernel_rfl, fun ww hSw => by clear hSw; go_simp⟩) hHeld ?_
        refine wpAnyE_take (i := 6) (by simp only [List.getElem?_toArray]; rfl) (by kernel_rfl) (by kernel_rfl) (by kernel_rfl) (by kernel_rfl) (by kernel_rfl) (by exact fun _ _ _ h => h) (by exact yk_ldU (by kernel_rfl) (.tmp 38) rfl ⟨b, off5 + 1, none⟩ (n1 : Int) (by kernel_rfl) (fun w hh => (bs_atK hh (k := 1) (by omega)).trans (by rw [HN1.out]))) hHeld ?_
        refine wpAnyE_take (i := 7) (by simp only [List.getElem?_toArray]; rfl) (by kernel_rfl) (by kernel_rfl) (by kernel_rfl) (by kernel_rfl) (by kernel_rfl) (by exact fun _ _ _ h => h) (by exact yk (.slice (some ⟨b, off5, none⟩) m c5) (by kernel_rfl) (fun _ => by kernel_rfl)) hHeld ?_
        refine wpAnyE_take (i := 8) (v := .pointer (some ⟨b, off5 + 2, none⟩)) (by simp only [List.getElem?_toArray]; rfl) (by kernel_rfl) (by kernel_rfl) (by kernel_rfl) (by kernel_rfl) (by kernel_rfl) (by exact fun _ _ _ h => h) (.inl ⟨by kernel_rfl, fun ww hSw => by clear hSw; go_simp⟩) hHeld ?_
        refine wpAnyE_take (i := 9) (by simp only [List.getElem?_toArray]; rfl) (by kernel_rfl) (by kernel_rfl) (by kernel_rfl) (by kernel_rfl) (by kernel_rfl) (by exact fun _ _ _ h => h) (by exact yk_ldU (by kernel_rfl) (.tmp 41) rfl ⟨b, off5 + 2, none⟩ (n2 : Int) (by kernel_rfl) (fun w hh => (bs_atK hh (k := 2) (by omega)).trans (by rw [HN2.out]))) hHeld ?_
        refine wpAnyE_take (i := 10) (by simp only [List.getElem?_toArray]; rfl) (by kernel_rfl) (by kernel_rfl) (by kernel_rfl) (by kernel_rfl) (by kernel_rfl) (by exact fun _ _ _ h => h) (by exact yk (.slice (some ⟨b, off5, none⟩) m c5) (by kernel_rfl) (fun _ => by kernel_rfl)) hHeld ?_
        refine wpAnyE_take (i := 11) (v := .pointer (some ⟨b, off5 + 3, none⟩)) (by simp only [List.getElem?_toArray]; rfl) (by kernel_rfl) (by kernel_rfl) (by kernel_rfl) (by kernel_rfl) (by kernel_rfl) (by exact fun _ _ _ h => h) (.inl ⟨by kernel_rfl, fun ww hSw => by clear hSw; go_simp⟩) hHeld ?_
        refine wpAnyE_take (i := 12) (by simp only [List.getElem?_toArray]; rfl) (by kernel_rfl) (by kernel_rfl) (by kernel_rfl) (by kernel_rfl) (by kernel_rfl) (by exact fun _ _ _ h => h) (by exact yk_ldU (by kernel_rfl) (.tmp 44) rfl ⟨b, off5 + 3, none⟩ (n3 : Int) (by kernel_rfl) (fun w hh => (bs_atK hh (k := 3) (by omega)).trans (by rw [HN3.out]))) hHeld ?_
        refine wpAnyE_take (i := 13) (by simp only [List.getElem?_toArray]; rfl) (by kernel_rfl) (by kernel_rfl) (by kernel_rfl) (by kernel_rfl) (by kernel_rfl) (by exact fun _ _ _ h => h) (by exact yk (.slice (some ⟨b, off5, none⟩) m c5) (by kernel_rfl) (fun _ => by kernel_rfl)) hHeld ?_
        refine wpAnyE_take (i := 14) (v := .slice (some ⟨b, off5 + 4, none⟩) 4 (c5 - 4)) (by simp only [List.getElem?_toArray]; rfl) (by kernel_rfl) (by kernel_rfl) (by kernel_rfl) (by kernel_rfl) (by kernel_rfl) (by exact fun _ _ _ h => h) (.inl ⟨by kernel_rfl, fun ww hSw => by clear hSw; go_simp⟩) hHeld ?_
        refine wpAnyE_take (i := 18) (by simp only [List.getElem?_toArray]; rfl) (by kernel_rfl) (by kernel_rfl) (by kernel_rfl) (by kernel_rfl) (by kernel_rfl) (by exact fun _ _ _ h => h) (by exact yk (.slice (some ⟨b, off5, none⟩) m c5) (by kernel_rfl) (fun _ => by kernel_rfl)) hHeld ?_
        refine wpAnyE_take (i := 19) (v := .slice (some ⟨b, off5 + 8, none⟩) 4 (c5 - 8)) (by simp only [List.getElem?_toArray]; rfl) (by kernel_rfl) (by kernel_rfl) (by kernel_rfl) (by kernel_rfl) (by kernel_rfl) (by exact fun _ _ _ h => h) (.inl ⟨by kernel_rfl, fun ww hSw => by clear hSw; go_simp⟩) hHeld ?_
        refine wpAnyE_ready (rs := [15]) (by kernel_rfl) (by simp) ?_
        refine EachE.cons (by rfl) (by simp only [List.getElem?_toArray]; rfl) (fun KK hKK => ?_) EachE.nil
        rw [if_pos (by kernel_rfl)]
        refine wp_callF 44 #[.slice (some ⟨b, off5 + 4, none⟩) 4 (c5 - 4)] (by kernel_rfl) ?_
        refine (hV1 _ (bs_sub hs5 4 4)).mono ?_
        rintro e wv ⟨rfl, rfl⟩
        refine ⟨_, rfl, ?_⟩
        refine hKK.out _ _ ?_ (fun hHeld => ?_)
        · exact (by first | exact hs5 | exact Sl.ext hs5 (below_drew (Below.refl _ _)))
        clear hKK KK
        refine wpAnyE_take (i := 16) (by simp only [List.getElem?_toArray]; rfl) (by kernel_rfl) (by kernel_rfl) (by kernel_rfl) (by kernel_rfl) (by kernel_rfl) (by exact fun _ _ _ h => h) (by exact yk_cvW (by kernel_rfl) (.tmp 48) rfl (n4 : Int) (by kernel_rfl) hcx4) hHeld ?_
        refine wpAnyE_take (i := 17) (by simp only [List.getElem?_toArray]; rfl) (by kernel_rfl) (by kernel_rfl) (by kernel_rfl) (by kernel_rfl) (by kernel_rfl) (by exact fun _ _ _ h => h) (by exact yk (.int .i32 (IntKind.i32.wrap (n4 : Int))) (by kernel_rfl) (fun _ => by kernel_rfl)) hHeld ?_
        refine wpAnyE_ready (rs := [20]) (by kernel_rfl) (by simp) ?_
        refine EachE.cons (by rfl) (by simp only [List.getElem?_toArray]; rfl) (fun KK hKK => ?_) EachE.nil
        rw [if_pos (by kernel_rfl)]
        refine wp_callF 44 #[.slice (some ⟨b, off5 + 8, none⟩) 4 (c5 - 8)] (by kernel_rfl) ?_
        refine (hV2 _ (bs_sub hs5 8 4)).mono ?_
        rintro e wv ⟨rfl, rfl⟩
        refine ⟨_, rfl, ?_⟩
        refine hKK.out _ _ ?_ (fun hHeld => ?_)
        · exact (by first | exact hs5 | exact Sl.ext hs5 (below_drew (Below.refl _ _)))
        clear hKK KK
        refine wpAnyE_take (i := 21) (by simp only [List.getElem?_toArray]; rfl) (by kernel_rfl) (by kernel_rfl) (by kernel_rfl) (by kernel_rfl) (by kernel_rfl) (by exact fun _ _ _ h => h) (by exact yk_cvW (by kernel_rfl) (.tmp 53) rfl (n5 : Int) (by kernel_rfl) hcx5) hHeld ?_
        refine wpAnyE_take (i := 22) (by simp only [List.getElem?_toArray]; rfl) (by kernel_rfl) (by kernel_rfl) (by kernel_rfl) (by kernel_rfl) (by kernel_rfl) (by exact fun _ _ _ h => h) (by exact yk (.agg (cdA ⟨n0, n1, n2, n3, IntKind.i32.wrap (n4 : Int), n5⟩)) (by kernel_rfl) (fun _ => by kernel_rfl)) hHeld ?_
        refine wpAnyE_ready (rs := [23]) (by kernel_rfl) (by simp) ?_
        refine EachE.cons (by rfl) (by simp only [List.getElem?_toArray]; rfl) (fun KK hKK => ?_) EachE.nil
        rw [if_pos (by kernel_rfl)]
        refine wp_bsK (.tmp 55) rfl ⟨n0, n1, n2, n3, IntKind.i32.wrap (n4 : Int), n5⟩ (by kernel_rfl) ?_
        have k1 := sl_new wd1' (kv [⟨n0, n1, n2, n3, IntKind.i32.wrap (n4 : Int), n5⟩]) 55
        rw [show (kv [⟨n0, n1, n2, n3, IntKind.i32.wrap (n4 : Int), n5⟩]).toArray = cdA ⟨n0, n1, n2, n3, IntKind.i32.wrap (n4 : Int), n5⟩ from rfl] at k1
        have h9 := below_alloc1 wd1' (.cells (cdA ⟨n0, n1, n2, n3, IntKind.i32.wrap (n4 : Int), n5⟩) 55)
        obtain ⟨w2', e⟩ : ∃ w2', w2' = World.alloc wd1' (.cells (cdA ⟨n0, n1, n2, n3, IntKind.i32.wrap (n4 : Int), n5⟩) 55) := ⟨_, rfl⟩
        rw [← e] at k1 h9 ⊢
        obtain ⟨b1, hb1⟩ : ∃ b1, b1 = wd1'.heap.size := ⟨_, rfl⟩
        rw [← hb1] at k1 ⊢
        replace hs5 := Sl.ext hs5 h9
        replace hr := RowK.ext hr h9
        replace hb := hb.trans (h9.mono hb.size)
        clear h9
        clear e hb1
        refine hKK.out _ _ ?_ (fun hHeld => ?_)
        · exact (by first | exact hs5 | exact Sl.ext hs5 (below_drew (Below.refl _ _)))
        clear hKK KK
        refine wpAnyE_ready (rs := [24]) (by kernel_rfl) (by simp) ?_
        refine EachE.cons (by rfl) (by simp only [List.getElem?_toArray]; rfl) (fun KK hKK => ?_) EachE.nil
        rw [if_pos (by kernel_rfl)]
        refine wp_appKr (.tmp 33) (.tmp 56) rfl w.heap.size vo _ (by kernel_rfl) hr b1 (some ⟨b1, 0, none⟩) 1 1 [⟨n0, n1, n2, n3, IntKind.i32.wrap (n4 : Int), n5⟩] (by kernel_rfl) k1 rfl (by have := HL.out; omega) hb.size ?_
        intro v8 w3' hr2 hm2
        have hlo := fun i h => (World.ownsRow.lt hr i h).1
        replace hs5 := Sl.mod hs5 hm2 (fun h => by have := hlo _ h; omega)
        replace hb := hb.trans (hm2.below hb.size (fun i hi h => by have := hlo _ h; omega))
        clear hr hm2 hlo k1
        refine hKK.out _ _ ?_ (fun hHeld => ?_)
        · exact (by first | exact hs5 | exact Sl.ext hs5 (below_drew (Below.refl _ _)))
        clear hKK KK
        refine wpAnyE_take (i := 25) (by simp only [List.getElem?_toArray]; rfl) (by kernel_rfl) (by kernel_rfl) (by kernel_rfl) (by kernel_rfl) (by kernel_rfl) (by exact fun _ _ _ h => h) (by exact yk (v8) (by kernel_rfl) (fun _ => by kernel_rfl)) hHeld ?_
        refine wpAnyE_done (by kernel_rfl) ?_ _
        have hs9 : Bs w3' b (if c5 = 12 then some ⟨b, off5, none⟩ else some ⟨b, off5 + 12, none⟩) (R.l.drop 12) := by
          by_cases h1 : c5 = 12
          · have hdr := Sl.drop hs5 (k := 12) (cap := c5) (by simp; omega)
            rw [bv_drop, if_pos h1] at hdr
            rw [if_pos h1]
            exact hdr
          · rw [if_neg h1]
            exact bs_drop hs5 12
        have HF := Lib.hid (And.intro hs9 hr2)
        clear hs5 hs9 hr2
        go_wp2_with fail
        go_roundw
        case rel => exact ⟨k + 1, _, _, _, _, rfl, by omega, rfl, by omega, by omega, by rw [HS.out, HD.out]; exact HF.out.1, by rw [HS.out, HD.out]; exact HF.out.2, hb⟩
        case measure => simp; omega
      · obtain rfl : k = N := by omega
        obtain rfl : m = 0 := by omega
        clear hm1 hm2 hk hmc hlt
        go_wp2_with fail
        go_ret2
        exact ⟨_, rfl, by rw [HC.out]; exact hr, hb⟩
/-- What instructions' bytes read as: none of those that aren't right. -/
def rK (p : List UInt8) : List Cd := if (gotK p).ok then (gotK p).g.cs else []
def rKE (p : List UInt8) : Nat := if (gotK p).ok then 0 else 2
theorem gotK_n (p : List UInt8) : (gotK p).g.cs.length ≤ 96 := by
  unfold gotK
  simp only [rowsK_len]
  unfold rdM
  cases rd 0 p with
  | none => exact Nat.zero_le _
  | some y =>
    obtain ⟨v, k⟩ := y
    simp only
    split
    · assumption
    · exact Nat.zero_le _
theorem rK_len (p : List UInt8) : (rK p).length ≤ 96 := by
  unfold rK
  split
  · exact gotK_n p
  · exact Nat.zero_le _
theorem KParse_r (A : Option Addr) (p : List UInt8) (n c b : Nat) (w : World) (hs : Bs w b A p) (hn : p.length = n) (hm : n ≤ 100000) :
    Calls Tryd.prog 19 #[.slice A n c] w fun e w' => ∃ v, e = .returned (.tuple #[v, .int .i64 (rKE p : Int)]) ∧ RowK 33 w' w.heap.size v (rK p) ∧ Below w.heap.size w w' :=
  KParse_any A p n c b w hs hn hm _ _ (by unfold rK rKE; split <;> rfl)
theorem RKParse_r (A : Option Addr) (p : List UInt8) (n c b : Nat) (w : World) (hs : Bs w b A p) (hn : p.length = n) (hnc : n ≤ c) :
    Calls Tryd.prog 24 #[.slice A n c] w fun e w' => ∃ v, e = .returned (.tuple #[v, .bool (gotK p).ok]) ∧ RowK 55 w' w.heap.size v (rK p) ∧ Below w.heap.size w w' := by
  have hbad : (gotK p).ok = false → rK p = [] := fun h => by unfold rK; rw [h]; rfl
  by_cases h0 : n = 0
  · have hb : (gotK p).ok = false := gotK_none (.inl (List.eq_nil_of_length_eq_zero (by omega)))
    subst h0
    rw [hb, hbad hb]
    exact (RKParse_nil A c w).mono fun e w' ⟨h1, h2⟩ => ⟨_, h1, RowK.nil_ _ _ _, h2⟩
  · obtain ⟨off, rfl, -⟩ := Bs.at_ hs (k := 0) (by omega)
    by_cases h96 : (p[0]'(by omega)).toNat ≤ 96
    · by_cases hoff : n = 1 + 12 * (p[0]'(by omega)).toNat
      · have hg : (gotK p).ok = true := gotK_on (by omega) h96 (by omega)
        have hc : rK p = (gotK p).g.cs := by unfold rK; rw [hg]; rfl
        rw [hg]
        exact RKParse_on b off p n c _ w hs hn hnc (by omega) rfl h96 hoff _ hc
      · have hb : (gotK p).ok = false := gotK_off (by omega) h96 (by omega)
        rw [hb, hbad hb]
        exact (RKParse_off b off p n c w hs hn (by omega) h96 hoff).mono fun e w' ⟨h1, h2⟩ => ⟨_, h1, RowK.nil_ _ _ _, h2⟩
    · have hb : (gotK p).ok = false := gotK_none (.inr (by
        obtain ⟨x, t, rfl⟩ := List.exists_cons_of_length_pos (l := p) (by omega)
        exact ⟨x, t, rfl, by simpa using h96⟩))
      rw [hb, hbad hb]
      exact (RKParse_big b off p n c w hs hn (by omega) (by omega)).mono fun e w' ⟨h1, h2⟩ => ⟨_, h1, RowK.nil_ _ _ _, h2⟩
end Go.Proofs.YtfckgfoimpileaaDoor
/- The document's Bytes of instructions; its Same of lists that are alike. Conditions: those said. -/
namespace Go.Proofs.YtfckgfoimpileaaDoor
open Go.RowKit
set_option linter.unusedVariables false

/-- An instruction in a variable. -/
def BoxKr (w : World) (g : Nat) (c : Cd) : Prop := w.heap[g]? = some (.cells (cdA c) 55 (0, 0))
theorem BoxKr.ext {w w' : World} {g : Nat} {c : Cd} (h : BoxKr w g c) (x : Below w.heap.size w w') : BoxKr w' g c := (x.block g (Array.getElem?_eq_some_iff.1 h).1).trans h
theorem BoxKr.at_ {w : World} {g : Nat} {c : Cd} (h : BoxKr w g c) {j : Nat} {v : Value} (hv : (cdA c)[j]? = some v) : w.cell? ⟨g, j, none⟩ = some v := by rw [cell_of_row w g j _ _ _ h]; exact hv
theorem four_new (W : World) {i j k l : Nat} (hi : i < 256) (hj : j < 256) (hk : k < 256) (hl : l < 256) : Bs (World.alloc W (.cells #[.int .u8 (i : Int), .int .u8 (j : Int), .int .u8 (k : Int), .int .u8 (l : Int)] 5)) W.heap.size (some ⟨W.heap.size, 0, none⟩) (low i 1 ++ (low j 1 ++ (low k 1 ++ low l 1))) := by
  have h := sl_new W (bv (low i 1 ++ (low j 1 ++ (low k 1 ++ low l 1)))) 5
  have e : (bv (low i 1 ++ (low j 1 ++ (low k 1 ++ low l 1)))).toArray = #[.int .u8 (i : Int), .int .u8 (j : Int), .int .u8 (k : Int), .int .u8 (l : Int)] := by
    rw [bv_append, bv_append, bv_append, bv_low_one i hi, bv_low_one j hj, bv_low_one k hk, bv_low_one l hl]
    rfl
  rw [e] at h
  exact h
theorem owns_lowJ {w : World} {B B' : Nat} {v : Value} {l : List UInt8} (h : Row w B v l) (hB : B' ≤ B) : Row w B' v l := own_lowK h hB
set_option maxHeartbeats 16000000 in
set_option maxRecDepth 40000 in
theorem RKBytes_calls (A : Option Addr) (l : List Cd) (n c b : Nat) (w : World) (hs : Sl w b A (kv l)) (hn : l.length = n) (hL : n ≤ 96) (hok : okK l) :
    Calls Tryd.prog 21 #[.slice A n c] w fun e w' => ∃ v, e = .returned v ∧ Row w' w.heap.size v (codesB l) ∧ Below w.heap.size w w' := by
  have HN := Lib.hid hn
  have hN := fun W => Num_calls n W (by omega)
  have e1 : IntKind.u64.wrap (n : Int) = (n : Int) := IntWalk.u64_in _ (by omega)
  clear hn
  go_enter Tryd.func21, Tryd.ntmps21
  go_wp2_with fail
  refine (hN _).mono ?_
  rintro e w1 ⟨v, rfl, hr, hb⟩
  replace hs := Sl.ext hs hb
  have hnl := num_le n
  clear hN e1
  go_wp2_with fail
  go_loopw [3, 5, 12] (fun o _ i wr => ∃ (k : Nat) (vo : Value), vo = o ∧ k ≤ n ∧ i = .int .i64 (k : Int) ∧ Row wr w.heap.size vo (num n ++ rowsB l k) ∧ Sl wr b A (kv l) ∧ Below w.heap.size w wr) (fun _ _ i _ => n - (intOf i).toNat)
  case atStart => exact ⟨0, _, rfl, Nat.zero_le _, rfl, hr.cast (by simp [rowsB]), hs, hb⟩
  case round =>
    clear hr hs hb
    obtain ⟨k, vo, rfl, hk, rfl, hr, hs, hb⟩ := hrel
    by_cases hlt : k < n
    · have hkl : k < l.length := by rw [HN.out]; exact hlt
      obtain ⟨off, rfl, k0, k1, k2, k3, k4, k5⟩ := sl_code hs hkl
      have HX := Lib.hid (rowsB_next hkl)
      have hco := hok _ (List.getElem_mem hkl)
      have HRL := Lib.hid (rowsB_len l k (by omega))
      obtain ⟨⟨op, ca, cb, cc, cn, cm⟩, hc⟩ : ∃ x, x = l[k] := ⟨_, rfl⟩
      rw [← hc] at k0 k1 k2 k3 k4 k5 HX hco
      obtain ⟨o0, o1, o2, o3, o4, o5, o6⟩ := hco
      simp only at k0 k1 k2 k3 k4 k5 o0 o1 o2 o3 o4 o5 o6
      have ej : (k : Int) < (n : Int) := by omega
      obtain ⟨Ao, co, bo, hve, -, -, -, -, hso, -⟩ := Row.sl hr
      obtain ⟨O, hO⟩ : ∃ O, O = num n ++ rowsB l k := ⟨_, rfl⟩
      have hOl : O.length ≤ 2000 := by rw [hO, List.length_append, HRL.out]; omega
      rw [← hO] at hve hso
      obtain ⟨no, hno⟩ : ∃ no, no = O.length := ⟨_, rfl⟩
      rw [← hno] at hve
      subst hve
      have HNO := Lib.hid hno.symm
      have HO := Lib.hid hO
      have hu := uN_wrap cn
      have hul := uN_lt cn
      obtain ⟨u, hu0⟩ : ∃ u, u = uN cn := ⟨_, rfl⟩
      rw [← hu0] at hu hul
      have HU := Lib.hid hu0
      have hc1 : IntKind.u64.wrap (u : Int) = (u : Int) := IntWalk.u64_in _ (by omega)
      have hc2 : IntKind.u64.wrap (cm : Int) = (cm : Int) := IntWalk.u64_in _ (by omega)
      have hL1 := fun W => Low_calls u 4 W (by omega) (by omega) (by omega)
      have hL2 := fun W => Low_calls cm 4 W (by omega) (by omega) (by omega)
      rw [show (4 : Int).toNat = 4 from rfl] at hL1 hL2
      have q := heap_alloc_new wr (.cells #[.int .u8 (op : Int), .int .u8 (ca : Int), .int .u8 (cb : Int), .int .u8 (cc : Int), .int .i32 cn, .int .u32 (cm : Int)] 55)
      have h9 := below_alloc1 wr (.cells #[.int .u8 (op : Int), .int .u8 (ca : Int), .int .u8 (cb : Int), .int .u8 (cc : Int), .int .i32 cn, .int .u32 (cm : Int)] 55)
      clear hc hno hO hu0 hr
      go_upto_region 5 with fail
      replace hs := Sl.ext hs h9
      replace hso := Sl.ext hso h9
      replace hb := hb.trans (h9.mono hb.size)
      obtain ⟨g, hg⟩ : ∃ g, g = wr.heap.size := ⟨_, rfl⟩
      obtain ⟨wz, hwz⟩ : ∃ wz, wz = wr.alloc (.cells #[.int .u8 (op : Int), .int .u8 (ca : Int), .int .u8 (cb : Int), .int .u8 (cc : Int), .int .i32 cn, .int .u32 (cm : Int)] 55) := ⟨_, rfl⟩
      rw [← hwz] at q hs hso hb ⊢
      rw [← hg] at q ⊢
      replace q : BoxKr wz g ⟨op, ca, cb, cc, cn, cm⟩ := q
      clear h9 hg hwz k0 k1 k2 k3 k4 k5
      go_wp2_with fail
      refine wp_region_E (fun j => false) (fun w9 => BoxKr w9 g ⟨op, ca, cb, cc, cn, cm⟩) (by kernel_rfl) ?_ (fun hHeld => ?_)
      · exact (by first | exact q | exact q.ext (below_drew (Below.refl _ _)))
      obtain ⟨wd1', hwd⟩ : ∃ wd1', wd1' = World.drew wz := ⟨_, rfl⟩
      have h9 : Below wz.heap.size wz wd1' := by rw [hwd]; exact below_drew (Below.refl _ _)
      rw [← hwd] at hHeld ⊢
      clear hwd
      replace q := q.ext h9
      replace hs := Sl.ext hs h9
      replace hso := Sl.ext hso h9
      replace hb := hb.trans (h9.mono hb.size)
      clear h9
      refine wpAnyE_take (i := 0) (by simp only [List.getElem?_toArray]; rfl) (by kernel_rfl) (by kernel_rfl) (by kernel_rfl) (by kernel_rfl) (by kernel_rfl) (by exact fun _ _ _ h => h) (by exact yk (.slice Ao no co) (by kernel_rfl) (fun _ => by kernel_rfl)) hHeld ?_
      refine wpAnyE_take (i := 1) (by simp only [List.getElem?_toArray]; rfl) (by kernel_rfl) (by kernel_rfl) (by kernel_rfl) (by kernel_rfl) (by kernel_rfl) (by exact fun _ _ _ h => h) (by exact yk (.pointer (some ⟨g, 0, none⟩)) (by kernel_rfl) (fun _ => by kernel_rfl)) hHeld ?_
      refine wpAnyE_take (i := 2) (by simp only [List.getElem?_toArray]; rfl) (by kernel_rfl) (by kernel_rfl) (by kernel_rfl) (by kernel_rfl) (by kernel_rfl) (by exact fun _ _ _ h => h) (by exact yk_ldU (by kernel_rfl) (.tmp 17) rfl ⟨g, 0, none⟩ ((op : Int)) (by kernel_rfl) (fun w hh => hh.at_ rfl)) hHeld ?_
      refine wpAnyE_take (i := 3) (by simp only [List.getElem?_toArray]; rfl) (by kernel_rfl) (by kernel_rfl) (by kernel_rfl) (by kernel_rfl) (by kernel_rfl) (by exact fun _ _ _ h => h) (by exact yk (.pointer (some ⟨g, 1, none⟩)) (by kernel_rfl) (fun _ => by kernel_rfl)) hHeld ?_
      refine wpAnyE_take (i := 4) (by simp only [List.getElem?_toArray]; rfl) (by kernel_rfl) (by kernel_rfl) (by kernel_rfl) (by kernel_rfl) (by kernel_rfl) (by exact fun _ _ _ h => h) (by exact yk_ldU (by kernel_rfl) (.tmp 19) rfl ⟨g, 1, none⟩ ((ca : Int)) (by kernel_rfl) (fun w hh => hh.at_ rfl)) hHeld ?_
      refine wpAnyE_take (i := 5) (by simp only [List.getElem?_toArray]; rfl) (by kernel_rfl) (by kernel_rfl) (by kernel_rfl) (by kernel_rfl) (by kernel_rfl) (by exact fun _ _ _ h => h) (by exact yk (.pointer (some ⟨g, 2, none⟩)) (by kernel_rfl) (fun _ => by kernel_rfl)) hHeld ?_
      refine wpAnyE_take (i := 6) (by simp only [List.getElem?_toArray]; rfl) (by kernel_rfl) (by kernel_rfl) (by kernel_rfl) (by kernel_rfl) (by kernel_rfl) (by exact fun _ _ _ h => h) (by exact yk_ldU (by kernel_rfl) (.tmp 21) rfl ⟨g, 2, none⟩ ((cb : Int)) (by kernel_rfl) (fun w hh => hh.at_ rfl)) hHeld ?_
      refine wpAnyE_take (i := 7) (by simp only [List.getElem?_toArray]; rfl) (by kernel_rfl) (by kernel_rfl) (by kernel_rfl) (by kernel_rfl) (by kernel_rfl) (by exact fun _ _ _ h => h) (by exact yk (.pointer (some ⟨g, 3, none⟩)) (by kernel_rfl) (fun _ => by kernel_rfl)) hHeld ?_
      refine wpAnyE_take (i := 8) (by simp only [List.getElem?_toArray]; rfl) (by kernel_rfl) (by kernel_rfl) (by kernel_rfl) (by kernel_rfl) (by kernel_rfl) (by exact fun _ _ _ h => h) (by exact yk_ldU (by kernel_rfl) (.tmp 23) rfl ⟨g, 3, none⟩ ((cc : Int)) (by kernel_rfl) (fun w hh => hh.at_ rfl)) hHeld ?_
      refine wpAnyE_take (i := 10) (by simp only [List.getElem?_toArray]; rfl) (by kernel_rfl) (by kernel_rfl) (by kernel_rfl) (by kernel_rfl) (by kernel_rfl) (by exact fun _ _ _ h => h) (by exact yk (.pointer (some ⟨g, 4, none⟩)) (by kernel_rfl) (fun _ => by kernel_rfl)) hHeld ?_
      refine wpAnyE_take (i := 11) (by simp only [List.getElem?_toArray]; rfl) (by kernel_rfl) (by kernel_rfl) (by kernel_rfl) (by kernel_rfl) (by kernel_rfl) (by exact fun _ _ _ h => h) (by exact yk_ldI (by kernel_rfl) (.tmp 26) rfl ⟨g, 4, none⟩ (cn) (by kernel_rfl) (fun w hh => hh.at_ rfl)) hHeld ?_
      refine wpAnyE_take (i := 12) (by simp only [List.getElem?_toArray]; rfl) (by kernel_rfl) (by kernel_rfl) (by kernel_rfl) (by kernel_rfl) (by kernel_rfl) (by exact fun _ _ _ h => h) (by exact yk_cvU (by kernel_rfl) (.tmp 27) rfl cn (u : Int) (by kernel_rfl) hu) hHeld ?_
      refine wpAnyE_take (i := 13) (by simp only [List.getElem?_toArray]; rfl) (by kernel_rfl) (by kernel_rfl) (by kernel_rfl) (by kernel_rfl) (by kernel_rfl) (by exact fun _ _ _ h => h) (by exact yk_cvL (by kernel_rfl) (.tmp 28) rfl (u : Int) (by kernel_rfl) hc1) hHeld ?_
      refine wpAnyE_take (i := 15) (by simp only [List.getElem?_toArray]; rfl) (by kernel_rfl) (by kernel_rfl) (by kernel_rfl) (by kernel_rfl) (by kernel_rfl) (by exact fun _ _ _ h => h) (by exact yk (.pointer (some ⟨g, 5, none⟩)) (by kernel_rfl) (fun _ => by kernel_rfl)) hHeld ?_
      refine wpAnyE_take (i := 16) (by simp only [List.getElem?_toArray]; rfl) (by kernel_rfl) (by kernel_rfl) (by kernel_rfl) (by kernel_rfl) (by kernel_rfl) (by exact fun _ _ _ h => h) (by exact yk_ldW (by kernel_rfl) (.tmp 31) rfl ⟨g, 5, none⟩ ((cm : Int)) (by kernel_rfl) (fun w hh => hh.at_ rfl)) hHeld ?_
      refine wpAnyE_take (i := 17) (by simp only [List.getElem?_toArray]; rfl) (by kernel_rfl) (by kernel_rfl) (by kernel_rfl) (by kernel_rfl) (by kernel_rfl) (by exact fun _ _ _ h => h) (by exact yk_cvL (by kernel_rfl) (.tmp 32) rfl (cm : Int) (by kernel_rfl) hc2) hHeld ?_
      refine wpAnyE_ready (rs := [9, 14]) (by kernel_rfl) (by simp) ?_
      refine EachE.cons (by rfl) (by simp only [List.getElem?_toArray]; rfl) (fun KK hKK => ?_) (EachE.cons (by rfl) (by simp only [List.getElem?_toArray]; rfl) (fun KK hKK => ?_) EachE.nil)
      ·
       rw [if_pos (by kernel_rfl)]
       refine wp_bsB4 (.tmp 18) (.tmp 20) (.tmp 22) (.tmp 24) rfl (op : Int) (ca : Int) (cb : Int) (cc : Int) (by kernel_rfl) (by kernel_rfl) (by kernel_rfl) (by kernel_rfl) ?_
       have s4 := four_new wd1' (i := op) (j := ca) (k := cb) (l := cc) (by omega) (by omega) (by omega) (by omega)
       have h9 := below_alloc1 wd1' (.cells #[.int .u8 (op : Int), .int .u8 (ca : Int), .int .u8 (cb : Int), .int .u8 (cc : Int)] 5)
       obtain ⟨w2', e⟩ : ∃ w2', w2' = World.alloc wd1' (.cells #[.int .u8 (op : Int), .int .u8 (ca : Int), .int .u8 (cb : Int), .int .u8 (cc : Int)] 5) := ⟨_, rfl⟩
       rw [← e] at s4 h9 ⊢
       obtain ⟨b4, hb4⟩ : ∃ b4, b4 = wd1'.heap.size := ⟨_, rfl⟩
       rw [← hb4] at s4 ⊢
       clear e hb4
       replace q := q.ext h9
       replace hs := Sl.ext hs h9
       replace hso := Sl.ext hso h9
       replace hb := hb.trans (h9.mono hb.size)
       clear h9
       refine hKK.out _ _ ?_ (fun hHeld => ?_)
       · exact (by first | exact q | exact q.ext (below_drew (Below.refl _ _)))
       clear hKK KK
       refine wpAnyE_ready (rs := [14]) (by kernel_rfl) (by simp) ?_
       refine EachE.cons (by rfl) (by simp only [List.getElem?_toArray]; rfl) (fun KK hKK => ?_) EachE.nil
       rw [if_pos (by kernel_rfl)]
       refine wp_callF 43 #[.int .u64 (u : Int), .int .i64 4] (by kernel_rfl) ?_
       refine (hL1 _).mono ?_
       rintro e w3' ⟨v, rfl, hrow, h9⟩
       obtain ⟨A1, c1, b1, hve, -, -, -, -, l1, -⟩ := Row.sl hrow
       rw [low_length] at hve
       subst hve
       clear hrow
       refine ⟨_, rfl, ?_⟩
       replace q := q.ext h9
       replace hs := Sl.ext hs h9
       replace hso := Sl.ext hso h9
       replace s4 := Sl.ext s4 h9
       replace hb := hb.trans (h9.mono hb.size)
       clear h9
       refine hKK.out _ _ ?_ (fun hHeld => ?_)
       · exact (by first | exact q | exact q.ext (below_drew (Below.refl _ _)))
       clear hKK KK
       refine wpAnyE_ready (rs := [18]) (by kernel_rfl) (by simp) ?_
       refine EachE.cons (by rfl) (by simp only [List.getElem?_toArray]; rfl) (fun KK hKK => ?_) EachE.nil
       rw [if_pos (by kernel_rfl)]
       refine wp_callF 43 #[.int .u64 (cm : Int), .int .i64 4] (by kernel_rfl) ?_
       refine (hL2 _).mono ?_
       rintro e w4' ⟨v, rfl, hrow, h9⟩
       obtain ⟨A2, c2, b2, hve, -, -, -, -, l2, -⟩ := Row.sl hrow
       rw [low_length] at hve
       subst hve
       clear hrow
       refine ⟨_, rfl, ?_⟩
       replace q := q.ext h9
       replace hs := Sl.ext hs h9
       replace hso := Sl.ext hso h9
       replace s4 := Sl.ext s4 h9
       replace l1 := Sl.ext l1 h9
       replace hb := hb.trans (h9.mono hb.size)
       clear h9
       refine hKK.out _ _ ?_ (fun hHeld => ?_)
       · exact (by first | exact q | exact q.ext (below_drew (Below.refl _ _)))
       clear hKK KK
       refine wpAnyE_ready (rs := [19]) (by kernel_rfl) (by simp) ?_
       refine EachE.cons (by rfl) (by simp only [List.getElem?_toArray]; rfl) (fun KK hKK => ?_) EachE.nil
       rw [if_pos (by kernel_rfl)]
       refine wp_bs4 (.tmp 16) (.tmp 25) (.tmp 30) (.tmp 34) rfl Ao no co (some ⟨b4, 0, none⟩) 4 4 A1 4 c1 A2 4 c2 (by kernel_rfl) (by kernel_rfl) (by kernel_rfl) (by kernel_rfl) ?_
       have hv := Sl.cells_new w4' #[.slice Ao no co, .slice (some ⟨b4, 0, none⟩) 4 4, .slice A1 4 c1, .slice A2 4 c2] 36
       have h9 := below_alloc1 w4' (.cells #[.slice Ao no co, .slice (some ⟨b4, 0, none⟩) 4 4, .slice A1 4 c1, .slice A2 4 c2] 36)
       obtain ⟨w5', e⟩ : ∃ w5', w5' = World.alloc w4' (.cells #[.slice Ao no co, .slice (some ⟨b4, 0, none⟩) 4 4, .slice A1 4 c1, .slice A2 4 c2] 36) := ⟨_, rfl⟩
       rw [← e] at hv h9 ⊢
       obtain ⟨b5, hb5⟩ : ∃ b5, b5 = w4'.heap.size := ⟨_, rfl⟩
       rw [← hb5] at hv ⊢
       clear e hb5
       replace q := q.ext h9
       replace hs := Sl.ext hs h9
       replace hso := Sl.ext hso h9
       replace s4 := Sl.ext s4 h9
       replace l1 := Sl.ext l1 h9
       replace l2 := Sl.ext l2 h9
       replace hb := hb.trans (h9.mono hb.size)
       clear h9
       refine hKK.out _ _ ?_ (fun hHeld => ?_)
       · exact (by first | exact q | exact q.ext (below_drew (Below.refl _ _)))
       clear hKK KK
       refine wpAnyE_ready (rs := [20]) (by kernel_rfl) (by simp) ?_
       refine EachE.cons (by rfl) (by simp only [List.getElem?_toArray]; rfl) (fun KK hKK => ?_) EachE.nil
       rw [if_pos (by kernel_rfl)]
       refine wp_callF 23 #[.slice (some ⟨b5, 0, none⟩) 4 4] (by kernel_rfl) ?_
       refine (Join_calls _ [.slice Ao no co, .slice (some ⟨b4, 0, none⟩) 4 4, .slice A1 4 c1, .slice A2 4 c2] [O, low op 1 ++ (low ca 1 ++ (low cb 1 ++ low cc 1)), low u 4, low cm 4] 4 4 b5 _ hv (Bss.cons hso HNO.out (Bss.cons s4 (by simp) (Bss.cons l1 (by simp) (Bss.cons l2 (by simp) (Bss.nil_ _))))) rfl (by simp [maxLen]) (by simp; omega)).mono ?_
       rintro e w6' ⟨vJ, rfl, hrow, h9⟩
       replace hrow := owns_lowJ hrow hb.size
       refine ⟨_, rfl, ?_⟩
       replace q := q.ext h9
       replace hs := Sl.ext hs h9
       replace hso := Sl.ext hso h9
       replace s4 := Sl.ext s4 h9
       replace l1 := Sl.ext l1 h9
       replace l2 := Sl.ext l2 h9
       replace hb := hb.trans (h9.mono hb.size)
       clear h9
       refine hKK.out _ _ ?_ (fun hHeld => ?_)
       · exact (by first | exact q | exact q.ext (below_drew (Below.refl _ _)))
       clear hKK KK
       refine wpAnyE_take (i := 21) (by simp only [List.getElem?_toArray]; rfl) (by kernel_rfl) (by kernel_rfl) (by kernel_rfl) (by kernel_rfl) (by kernel_rfl) (by exact fun _ _ _ h => h) (by exact yk (vJ) (by kernel_rfl) (fun _ => by kernel_rfl)) hHeld ?_
       refine wpAnyE_done (by kernel_rfl) ?_ _
       have hfin : Hid ([O, low op 1 ++ (low ca 1 ++ (low cb 1 ++ low cc 1)), low u 4, low cm 4].flatten = num n ++ rowsB l (k + 1)) := Lib.hid (by rw [HX.out, HO.out, HU.out]; simp [codeB])
       go_wp2_with fail
       go_roundw
       case rel => exact ⟨k + 1, vJ, rfl, by omega, by go_num, hrow.cast hfin.out, hs, hb⟩
       case measure => simp [intOf]; omega
      ·
       rw [if_pos (by kernel_rfl)]
       refine wp_callF 43 #[.int .u64 (u : Int), .int .i64 4] (by kernel_rfl) ?_
       refine (hL1 _).mono ?_
       rintro e w7' ⟨v, rfl, hrow, h9⟩
       obtain ⟨A1, c1, b1, hve, -, -, -, -, l1, -⟩ := Row.sl hrow
       rw [low_length] at hve
       subst hve
       clear hrow
       refine ⟨_, rfl, ?_⟩
       replace q := q.ext h9
       replace hs := Sl.ext hs h9
       replace hso := Sl.ext hso h9
       replace hb := hb.trans (h9.mono hb.size)
       clear h9
       refine hKK.out _ _ ?_ (fun hHeld => ?_)
       · exact (by first | exact q | exact q.ext (below_drew (Below.refl _ _)))
       clear hKK KK
       refine wpAnyE_ready (rs := [9, 18]) (by kernel_rfl) (by simp) ?_
       refine EachE.cons (by rfl) (by simp only [List.getElem?_toArray]; rfl) (fun KK hKK => ?_) (EachE.cons (by rfl) (by simp only [List.getElem?_toArray]; rfl) (fun KK hKK => ?_) EachE.nil)
       ·
        rw [if_pos (by kernel_rfl)]
        refine wp_bsB4 (.tmp 18) (.tmp 20) (.tmp 22) (.tmp 24) rfl (op : Int) (ca : Int) (cb : Int) (cc : Int) (by kernel_rfl) (by kernel_rfl) (by kernel_rfl) (by kernel_rfl) ?_
        have s4 := four_new w7' (i := op) (j := ca) (k := cb) (l := cc) (by omega) (by omega) (by omega) (by omega)
        have h9 := below_alloc1 w7' (.cells #[.int .u8 (op : Int), .int .u8 (ca : Int), .int .u8 (cb : Int), .int .u8 (cc : Int)] 5)
        obtain ⟨w8', e⟩ : ∃ w8', w8' = World.alloc w7' (.cells #[.int .u8 (op : Int), .int .u8 (ca : Int), .int .u8 (cb : Int), .int .u8 (cc : Int)] 5) := ⟨_, rfl⟩
        rw [← e] at s4 h9 ⊢
        obtain ⟨b4, hb4⟩ : ∃ b4, b4 = w7'.heap.size := ⟨_, rfl⟩
        rw [← hb4] at s4 ⊢
        clear e hb4
        replace q := q.ext h9
        replace hs := Sl.ext hs h9
        replace hso := Sl.ext hso h9
        replace l1 := Sl.ext l1 h9
        replace hb := hb.trans (h9.mono hb.size)
        clear h9
        refine hKK.out _ _ ?_ (fun hHeld => ?_)
        · exact (by first | exact q | exact q.ext (below_drew (Below.refl _ _)))
        clear hKK KK
        refine wpAnyE_ready (rs := [18]) (by kernel_rfl) (by simp) ?_
        refine EachE.cons (by rfl) (by simp only [List.getElem?_toArray]; rfl) (fun KK hKK => ?_) EachE.nil
        rw [if_pos (by kernel_rfl)]
        refine wp_callF 43 #[.int .u64 (cm : Int), .int .i64 4] (by kernel_rfl) ?_
        refine (hL2 _).mono ?_
        rintro e w9' ⟨v, rfl, hrow, h9⟩
        obtain ⟨A2, c2, b2, hve, -, -, -, -, l2, -⟩ := Row.sl hrow
        rw [low_length] at hve
        subst hve
        clear hrow
        refine ⟨_, rfl, ?_⟩
        replace q := q.ext h9
        replace hs := Sl.ext hs h9
        replace hso := Sl.ext hso h9
        replace l1 := Sl.ext l1 h9
        replace s4 := Sl.ext s4 h9
        replace hb := hb.trans (h9.mono hb.size)
        clear h9
        refine hKK.out _ _ ?_ (fun hHeld => ?_)
        · exact (by first | exact q | exact q.ext (below_drew (Below.refl _ _)))
        clear hKK KK
        refine wpAnyE_ready (rs := [19]) (by kernel_rfl) (by simp) ?_
        refine EachE.cons (by rfl) (by simp only [List.getElem?_toArray]; rfl) (fun KK hKK => ?_) EachE.nil
        rw [if_pos (by kernel_rfl)]
        refine wp_bs4 (.tmp 16) (.tmp 25) (.tmp 30) (.tmp 34) rfl Ao no co (some ⟨b4, 0, none⟩) 4 4 A1 4 c1 A2 4 c2 (by kernel_rfl) (by kernel_rfl) (by kernel_rfl) (by kernel_rfl) ?_
        have hv := Sl.cells_new w9' #[.slice Ao no co, .slice (some ⟨b4, 0, none⟩) 4 4, .slice A1 4 c1, .slice A2 4 c2] 36
        have h9 := below_alloc1 w9' (.cells #[.slice Ao no co, .slice (some ⟨b4, 0, none⟩) 4 4, .slice A1 4 c1, .slice A2 4 c2] 36)
        obtain ⟨w10', e⟩ : ∃ w10', w10' = World.alloc w9' (.cells #[.slice Ao no co, .slice (some ⟨b4, 0, none⟩) 4 4, .slice A1 4 c1, .slice A2 4 c2] 36) := ⟨_, rfl⟩
        rw [← e] at hv h9 ⊢
        obtain ⟨b5, hb5⟩ : ∃ b5, b5 = w9'.heap.size := ⟨_, rfl⟩
        rw [← hb5] at hv ⊢
        clear e hb5
        replace q := q.ext h9
        replace hs := Sl.ext hs h9
        replace hso := Sl.ext hso h9
        replace l1 := Sl.ext l1 h9
        replace s4 := Sl.ext s4 h9
        replace l2 := Sl.ext l2 h9
        replace hb := hb.trans (h9.mono hb.size)
        clear h9
        refine hKK.out _ _ ?_ (fun hHeld => ?_)
        · exact (by first | exact q | exact q.ext (below_drew (Below.refl _ _)))
        clear hKK KK
        refine wpAnyE_ready (rs := [20]) (by kernel_rfl) (by simp) ?_
        refine EachE.cons (by rfl) (by simp only [List.getElem?_toArray]; rfl) (fun KK hKK => ?_) EachE.nil
        rw [if_pos (by kernel_rfl)]
        refine wp_callF 23 #[.slice (some ⟨b5, 0, none⟩) 4 4] (by kernel_rfl) ?_
        refine (Join_calls _ [.slice Ao no co, .slice (some ⟨b4, 0, none⟩) 4 4, .slice A1 4 c1, .slice A2 4 c2] [O, low op 1 ++ (low ca 1 ++ (low cb 1 ++ low cc 1)), low u 4, low cm 4] 4 4 b5 _ hv (Bss.cons hso HNO.out (Bss.cons s4 (by simp) (Bss.cons l1 (by simp) (Bss.cons l2 (by simp) (Bss.nil_ _))))) rfl (by simp [maxLen]) (by simp; omega)).mono ?_
        rintro e w11' ⟨vJ, rfl, hrow, h9⟩
        replace hrow := owns_lowJ hrow hb.size
        refine ⟨_, rfl, ?_⟩
        replace q := q.ext h9
        replace hs := Sl.ext hs h9
        replace hso := Sl.ext hso h9
        replace l1 := Sl.ext l1 h9
        replace s4 := Sl.ext s4 h9
        replace l2 := Sl.ext l2 h9
        replace hb := hb.trans (h9.mono hb.size)
        clear h9
        refine hKK.out _ _ ?_ (fun hHeld => ?_)
        · exact (by first | exact q | exact q.ext (below_drew (Below.refl _ _)))
        clear hKK KK
        refine wpAnyE_take (i := 21) (by simp only [List.getElem?_toArray]; rfl) (by kernel_rfl) (by kernel_rfl) (by kernel_rfl) (by kernel_rfl) (by kernel_rfl) (by exact fun _ _ _ h => h) (by exact yk (vJ) (by kernel_rfl) (fun _ => by kernel_rfl)) hHeld ?_
        refine wpAnyE_done (by kernel_rfl) ?_ _
        have hfin : Hid ([O, low op 1 ++ (low ca 1 ++ (low cb 1 ++ low cc 1)), low u 4, low cm 4].flatten = num n ++ rowsB l (k + 1)) := Lib.hid (by rw [HX.out, HO.out, HU.out]; simp [codeB])
        go_wp2_with fail
        go_roundw
        case rel => exact ⟨k + 1, vJ, rfl, by omega, by go_num, hrow.cast hfin.out, hs, hb⟩
        case measure => simp [intOf]; omega
       ·
        rw [if_pos (by kernel_rfl)]
        refine wp_callF 43 #[.int .u64 (cm : Int), .int .i64 4] (by kernel_rfl) ?_
        refine (hL2 _).mono ?_
        rintro e w12' ⟨v, rfl, hrow, h9⟩
        obtain ⟨A2, c2, b2, hve, -, -, -, -, l2, -⟩ := Row.sl hrow
        rw [low_length] at hve
        subst hve
        clear hrow
        refine ⟨_, rfl, ?_⟩
        replace q := q.ext h9
        replace hs := Sl.ext hs h9
        replace hso := Sl.ext hso h9
        replace l1 := Sl.ext l1 h9
        replace hb := hb.trans (h9.mono hb.size)
        clear h9
        refine hKK.out _ _ ?_ (fun hHeld => ?_)
        · exact (by first | exact q | exact q.ext (below_drew (Below.refl _ _)))
        clear hKK KK
        refine wpAnyE_ready (rs := [9]) (by kernel_rfl) (by simp) ?_
        refine EachE.cons (by rfl) (by simp only [List.getElem?_toArray]; rfl) (fun KK hKK => ?_) EachE.nil
        rw [if_pos (by kernel_rfl)]
        refine wp_bsB4 (.tmp 18) (.tmp 20) (.tmp 22) (.tmp 24) rfl (op : Int) (ca : Int) (cb : Int) (cc : Int) (by kernel_rfl) (by kernel_rfl) (by kernel_rfl) (by kernel_rfl) ?_
        have s4 := four_new w12' (i := op) (j := ca) (k := cb) (l := cc) (by omega) (by omega) (by omega) (by omega)
        have h9 := below_alloc1 w12' (.cells #[.int .u8 (op : Int), .int .u8 (ca : Int), .int .u8 (cb : Int), .int .u8 (cc : Int)] 5)
        obtain ⟨w13', e⟩ : ∃ w13', w13' = World.alloc w12' (.cells #[.int .u8 (op : Int), .int .u8 (ca : Int), .int .u8 (cb : Int), .int .u8 (cc : Int)] 5) := ⟨_, rfl⟩
        rw [← e] at s4 h9 ⊢
        obtain ⟨b4, hb4⟩ : ∃ b4, b4 = w12'.heap.size := ⟨_, rfl⟩
        rw [← hb4] at s4 ⊢
        clear e hb4
        replace q := q.ext h9
        replace hs := Sl.ext hs h9
        replace hso := Sl.ext hso h9
        replace l1 := Sl.ext l1 h9
        replace l2 := Sl.ext l2 h9
        replace hb := hb.trans (h9.mono hb.size)
        clear h9
        refine hKK.out _ _ ?_ (fun hHeld => ?_)
        · exact (by first | exact q | exact q.ext (below_drew (Below.refl _ _)))
        clear hKK KK
        refine wpAnyE_ready (rs := [19]) (by kernel_rfl) (by simp) ?_
        refine EachE.cons (by rfl) (by simp only [List.getElem?_toArray]; rfl) (fun KK hKK => ?_) EachE.nil
        rw [if_pos (by kernel_rfl)]
        refine wp_bs4 (.tmp 16) (.tmp 25) (.tmp 30) (.tmp 34) rfl Ao no co (some ⟨b4, 0, none⟩) 4 4 A1 4 c1 A2 4 c2 (by kernel_rfl) (by kernel_rfl) (by kernel_rfl) (by kernel_rfl) ?_
        have hv := Sl.cells_new w13' #[.slice Ao no co, .slice (some ⟨b4, 0, none⟩) 4 4, .slice A1 4 c1, .slice A2 4 c2] 36
        have h9 := below_alloc1 w13' (.cells #[.slice Ao no co, .slice (some ⟨b4, 0, none⟩) 4 4, .slice A1 4 c1, .slice A2 4 c2] 36)
        obtain ⟨w14', e⟩ : ∃ w14', w14' = World.alloc w13' (.cells #[.slice Ao no co, .slice (some ⟨b4, 0, none⟩) 4 4, .slice A1 4 c1, .slice A2 4 c2] 36) := ⟨_, rfl⟩
        rw [← e] at hv h9 ⊢
        obtain ⟨b5, hb5⟩ : ∃ b5, b5 = w13'.heap.size := ⟨_, rfl⟩
        rw [← hb5] at hv ⊢
        clear e hb5
        replace q := q.ext h9
        replace hs := Sl.ext hs h9
        replace hso := Sl.ext hso h9
        replace l1 := Sl.ext l1 h9
        replace l2 := Sl.ext l2 h9
        replace s4 := Sl.ext s4 h9
        replace hb := hb.trans (h9.mono hb.size)
        clear h9
        refine hKK.out _ _ ?_ (fun hHeld => ?_)
        · exact (by first | exact q | exact q.ext (below_drew (Below.refl _ _)))
        clear hKK KK
        refine wpAnyE_ready (rs := [20]) (by kernel_rfl) (by simp) ?_
        refine EachE.cons (by rfl) (by simp only [List.getElem?_toArray]; rfl) (fun KK hKK => ?_) EachE.nil
        rw [if_pos (by kernel_rfl)]
        refine wp_callF 23 #[.slice (some ⟨b5, 0, none⟩) 4 4] (by kernel_rfl) ?_
        refine (Join_calls _ [.slice Ao no co, .slice (some ⟨b4, 0, none⟩) 4 4, .slice A1 4 c1, .slice A2 4 c2] [O, low op 1 ++ (low ca 1 ++ (low cb 1 ++ low cc 1)), low u 4, low cm 4] 4 4 b5 _ hv (Bss.cons hso HNO.out (Bss.cons s4 (by simp) (Bss.cons l1 (by simp) (Bss.cons l2 (by simp) (Bss.nil_ _))))) rfl (by simp [maxLen]) (by simp; omega)).mono ?_
        rintro e w15' ⟨vJ, rfl, hrow, h9⟩
        replace hrow := owns_lowJ hrow hb.size
        refine ⟨_, rfl, ?_⟩
        replace q := q.ext h9
        replace hs := Sl.ext hs h9
        replace hso := Sl.ext hso h9
        replace l1 := Sl.ext l1 h9
        replace l2 := Sl.ext l2 h9
        replace s4 := Sl.ext s4 h9
        replace hb := hb.trans (h9.mono hb.size)
        clear h9
        refine hKK.out _ _ ?_ (fun hHeld => ?_)
        · exact (by first | exact q | exact q.ext (below_drew (Below.refl _ _)))
        clear hKK KK
        refine wpAnyE_take (i := 21) (by simp only [List.getElem?_toArray]; rfl) (by kernel_rfl) (by kernel_rfl) (by kernel_rfl) (by kernel_rfl) (by kernel_rfl) (by exact fun _ _ _ h => h) (by exact yk (vJ) (by kernel_rfl) (fun _ => by kernel_rfl)) hHeld ?_
        refine wpAnyE_done (by kernel_rfl) ?_ _
        have hfin : Hid ([O, low op 1 ++ (low ca 1 ++ (low cb 1 ++ low cc 1)), low u 4, low cm 4].flatten = num n ++ rowsB l (k + 1)) := Lib.hid (by rw [HX.out, HO.out, HU.out]; simp [codeB])
        go_wp2_with fail
        go_roundw
        case rel => exact ⟨k + 1, vJ, rfl, by omega, by go_num, hrow.cast hfin.out, hs, hb⟩
        case measure => simp [intOf]; omega
    · obtain rfl : k = n := by omega
      go_wp2_with fail
      go_ret
      refine ⟨_, rfl, hr.cast ?_, hb⟩
      unfold codesB
      rw [HN.out]
set_option maxHeartbeats 4000000 in
set_option maxRecDepth 20000 in
theorem RKSame_yes (A A' : Option Addr) (L : List Cd) (n c b c' b' : Nat) (w : World) (hs : Sl w b A (kv L)) (hs' : Sl w b' A' (kv L)) (hn : L.length = n) (hm : n ≤ 1000000) :
    Calls Tryd.prog 22 #[.slice A n c, .slice A' n c'] w fun e w' => e = .returned (.bool true) ∧ Below w.heap.size w w' := by
  have HN := Lib.hid hn
  have hne : ((n : Int) != (n : Int)) = false := by simp
  clear hn
  go_enter Tryd.func22, Tryd.ntmps22
  go_wp2_with fail
  clear hne
  go_loopw [5, 13] (fun v i wr => ∃ k : Nat, k ≤ n ∧ i = .int .i64 k ∧ Below w.heap.size w wr) (fun _ i _ => n - (intOf i).toNat)
  case atStart => exact ⟨0, Nat.zero_le _, rfl, Below.refl _ _⟩
  case round =>
    obtain ⟨k, hk, rfl, hb⟩ := hrel
    by_cases hlt : k < n
    · have hkl : k < L.length := by rw [HN.out]; exact hlt
      obtain ⟨off, rfl, x0, x1, x2, x3, x4, x5⟩ := sl_code (Sl.ext hs hb) hkl
      obtain ⟨off', rfl, y0, y1, y2, y3, y4, y5⟩ := sl_code (Sl.ext hs' hb) hkl
      obtain ⟨⟨op, ca, cb, cc, cn, cm⟩, hc⟩ : ∃ x, x = L[k] := ⟨_, rfl⟩
      rw [← hc] at x0 x1 x2 x3 x4 x5 y0 y1 y2 y3 y4 y5
      simp only at x0 x1 x2 x3 x4 x5 y0 y1 y2 y3 y4 y5
      clear hc
      have ej : (k : Int) < (n : Int) := by omega
      go_wp2_with fail
      go_quiet (fail)
      go_wp2_with fail
      go_roundw
      case rel => exact ⟨k + 1, by omega, by go_num, below_drewN hb _⟩
      case measure => simp [intOf]; omega
    · obtain rfl : k = n := by omega
      go_wp2_with fail
      go_ret
      exact ⟨rfl, hb⟩
end Go.Proofs.YtfckgfoimpileaaDoor
