/- Hash and Labels of a board: the sums of what is written of each cell. Conditions: a board has 48 cells at most; the cells fit. -/
import Derived.Test.YtpppjlcfhijdgaaBoardLsD
import Derived.Test.YtpppjlcfhijdgaaTableSumD
import Derived.Test.YtpppjlcfhijdgaaPenB
namespace Go.Proofs.Ytpppjlcfhijdgaa
open Go.RowKit

def uN (x : Int) : Nat := (x % 4294967296).toNat
theorem uN_lt (x : Int) : uN x < 4294967296 := by unfold uN; omega
theorem uN_wrap (x : Int) : IntKind.u32.wrap x = ((uN x : Nat) : Int) := by rw [IntKind.wrap_u32]; unfold uN; omega
theorem uN_mod (x : Int) : x % 4294967296 = ((uN x : Nat) : Int) := by unfold uN; omega
/-- What is written of a cell. -/
def cellB (c : Int × Nat) : List UInt8 := low (uN c.1) 4 ++ low c.2 4
def labB (c : Int × Nat) : List UInt8 := low c.2 4
def cellsB (L : List (Int × Nat)) : List UInt8 := L.flatMap cellB
def labsB (L : List (Int × Nat)) : List UInt8 := L.flatMap labB
theorem cellsB_len (L : List (Int × Nat)) : (cellsB L).length = 8 * L.length := by
  induction L with
  | nil => rfl
  | cons c L ih => simp only [cellsB, List.flatMap_cons, List.length_append, List.length_cons] at ih ⊢; rw [ih]; simp [cellB]; omega
theorem labsB_len (L : List (Int × Nat)) : (labsB L).length = 4 * L.length := by
  induction L with
  | nil => rfl
  | cons c L ih => simp only [labsB, List.flatMap_cons, List.length_append, List.length_cons] at ih ⊢; rw [ih]; simp [labB]; omega
theorem cellsB_snoc (L : List (Int × Nat)) (c : Int × Nat) : cellsB (L ++ [c]) = cellsB L ++ cellB c := by simp [cellsB]
theorem labsB_snoc (L : List (Int × Nat)) (c : Int × Nat) : labsB (L ++ [c]) = labsB L ++ labB c := by simp [labsB]
/-- The sums. -/
def hashL (L : List (Int × Nat)) : Nat := sumN (cellsB L)
def labsL (L : List (Int × Nat)) : Nat := sumN (labsB L)
theorem take_snoc1 {α : Type} {L : List α} {k : Nat} (hk : k < L.length) : L.take (k + 1) = L.take k ++ [L[k]] := by rw [List.take_succ_eq_append_getElem hk]
theorem pen_far {w w' : World} {g B : Nat} {r : Option Nat} {cs : Array Value} {t : TypeId} {fr : Nat × Nat} (h : Mod (fun i => i = g ∨ r = some i) w w') (hB : B < w.heap.size) (hg : B ≠ g) (hr : ∀ k, r = some k → B ≠ k) (q : w.heap[B]? = some (.cells cs t fr)) : w'.heap[B]? = some (.cells cs t fr) :=
  (h.block B hB (fun hh => hh.elim hg (fun e => hr B e rfl))).trans q
theorem pen_ne {w : World} {g k : Nat} {r : Option Nat} {l : List UInt8} (hp : PenAt w g r l) (hk : w.heap.size ≤ k) : k ≠ g ∧ ∀ j, r = some j → k ≠ j :=
  ⟨by have := hp.lt; omega, fun j hj => by have := hp.row_lt j hj; omega⟩
set_option maxHeartbeats 4000000 in
set_option maxRecDepth 20000 in
theorem whole_calls (x : Int) (y g : Nat) (r : Option Nat) (l : List UInt8) (w : World) (hp : PenAt w g r l) (hy : y < 4294967296) (hlen : l.length ≤ 1000000) :
    Calls Try.prog 58 #[.agg #[.int .i32 x, .int .u32 (y : Int)], .pointer (some ⟨g, 0, none⟩)] w fun e w' => e = .returned (.tuple #[]) ∧ ∃ r', PenAt w' g r' (l ++ cellB (x, y)) ∧ PenStep g r r' w w' := by
  have hb := below_drew (below_alloc1 w (.cells #[.int .i32 x, .int .u32 (y : Int)] 29))
  have hp0 := PenAt.ext hp hb
  have q0 := BoxC.new_ w x y
  have hne := pen_ne hp (Nat.le_refl _)
  have hw := uN_wrap x
  have hw2 := uN_mod x
  have hul := uN_lt x
  obtain ⟨u, hu⟩ : ∃ u, u = uN x := ⟨_, rfl⟩
  have hB : low u 4 ++ low y 4 = cellB (x, y) := by rw [hu]; rfl
  rw [← hu] at hw hw2 hul
  have HB := Lib.hid hB
  clear hu hB
  go_enter Try.func58, Try.ntmps58
  go_wp2_with fail
  refine wp_region_held_drew (S := fun w' => BoxC w' w.heap.size x y) (by kernel_rfl) ?_ (fun hHeld => ?_)
  · exact q0
  refine wpAnyH_take (i := 0) (v := ?mv0) (by simp only [List.getElem?_toArray, List.getElem?_cons_zero]; rfl) (by kernel_rfl) (by kernel_rfl) (by kernel_rfl) (by exact fun _ _ _ h => h) (Or.inl ⟨by rfl, ?my0⟩) hHeld ?_
  case my0 => (intro w hSw; (try dsimp only at hSw); have hz0 := hSw.c0; have hz1 := hSw.c1; clear hSw; go_simp; try (with_reducible rfl))
  try simp only [Act.put, List.setIfInBounds_toArray, List.set_cons_zero, List.set_cons_succ]
  refine wpAnyH_take (i := 1) (v := ?mv1) (by simp only [List.getElem?_toArray, List.getElem?_cons_succ, List.getElem?_cons_zero]; rfl) (by kernel_rfl) (by kernel_rfl) (by kernel_rfl) (by exact fun _ _ _ h => h) (Or.inl ⟨by rfl, ?my1⟩) hHeld ?_
  case my1 => (intro w hSw; (try dsimp only at hSw); have hz0 := hSw.c0; have hz1 := hSw.c1; clear hSw; go_simp; try (with_reducible rfl))
  try simp only [Act.put, List.setIfInBounds_toArray, List.set_cons_zero, List.set_cons_succ]
  refine wpAnyH_take (i := 2) (v := ?mv2) (by simp only [List.getElem?_toArray, List.getElem?_cons_succ, List.getElem?_cons_zero]; rfl) (by kernel_rfl) (by kernel_rfl) (by kernel_rfl) (by exact fun _ _ _ h => h) (Or.inl ⟨by rfl, ?my2⟩) hHeld ?_
  case my2 => (intro w hSw; (try dsimp only at hSw); have hz0 := hSw.c0; have hz1 := hSw.c1; clear hSw; go_simp; try (with_reducible rfl))
  try simp only [Act.put, List.setIfInBounds_toArray, List.set_cons_zero, List.set_cons_succ]
  refine wpAnyH_take (i := 3) (v := ?mv3) (by simp only [List.getElem?_toArray, List.getElem?_cons_succ, List.getElem?_cons_zero]; rfl) (by kernel_rfl) (by kernel_rfl) (by kernel_rfl) (by exact fun _ _ _ h => h) (Or.inl ⟨by rfl, ?my3⟩) hHeld ?_
  case my3 => (intro w hSw; (try dsimp only at hSw); have hz0 := hSw.c0; have hz1 := hSw.c1; clear hSw; go_simp; try (with_reducible rfl))
  try simp only [Act.put, List.setIfInBounds_toArray, List.set_cons_zero, List.set_cons_succ]
  refine wpAnyH_take (i := 5) (v := ?mv5) (by simp only [List.getElem?_toArray, List.getElem?_cons_succ, List.getElem?_cons_zero]; rfl) (by kernel_rfl) (by kernel_rfl) (by kernel_rfl) (by exact fun _ _ _ h => h) (Or.inl ⟨by rfl, ?my5⟩) hHeld ?_
  case my5 => (intro w hSw; (try dsimp only at hSw); have hz0 := hSw.c0; have hz1 := hSw.c1; clear hSw; go_simp; try (with_reducible rfl))
  try simp only [Act.put, List.setIfInBounds_toArray, List.set_cons_zero, List.set_cons_succ]
  refine wpAnyH_take (i := 6) (v := ?mv6) (by simp only [List.getElem?_toArray, List.getElem?_cons_succ, List.getElem?_cons_zero]; rfl) (by kernel_rfl) (by kernel_rfl) (by kernel_rfl) (by exact fun _ _ _ h => h) (Or.inl ⟨by rfl, ?my6⟩) hHeld ?_
  case my6 => (intro w hSw; (try dsimp only at hSw); have hz0 := hSw.c0; have hz1 := hSw.c1; clear hSw; go_simp; try (with_reducible rfl))
  try simp only [Act.put, List.setIfInBounds_toArray, List.set_cons_zero, List.set_cons_succ]
  refine wpAnyH_ready (rs := [4]) (by kernel_rfl) (by simp) ?_
  refine AllReadyH.cons (by simp only [List.getElem?_toArray, List.getElem?_cons_succ, List.getElem?_cons_zero]; rfl) (fun KK hKK => ?_) AllReadyH.nil
  go_simp
  refine (PenWord_calls g r l u _ hp0 hul (by omega)).mono ?_
  rintro e w1 ⟨rfl, r1, hp1, hst1⟩
  have q1 : BoxC w1 w.heap.size x y := pen_far hst1.2 (by show w.heap.size < (w.alloc _).heap.size; simp) hne.1 hne.2 q0
  go_wp2_with fail
  refine hKK.out _ _ ?_ (fun hHeld => ?_)
  · exact q1
  clear hKK KK
  try simp only [Act.put, List.setIfInBounds_toArray, List.set_cons_zero, List.set_cons_succ]
  refine wpAnyH_ready (rs := [7]) (by kernel_rfl) (by simp) ?_
  refine AllReadyH.cons (by simp only [List.getElem?_toArray, List.getElem?_cons_succ, List.getElem?_cons_zero]; rfl) (fun KK hKK => ?_) AllReadyH.nil
  go_simp
  refine (PenWord_calls g r1 (l ++ low u 4) y _ hp1 hy (by simp; omega)).mono ?_
  rintro e w2 ⟨rfl, r2, hp2, hst2⟩
  have hne2 := hst1.1
  have q2 : BoxC w2 w.heap.size x y := pen_far hst2.2 q1.lt hne.1 (fun k hk => by rcases hst1.1 with h | ⟨q, h, hq⟩; exact hne.2 k (h ▸ hk); (have e := h.symm.trans hk; injection e with e; have hq : (w.alloc (.cells #[.int .i32 x, .int .u32 (y : Int)] 29)).heap.size ≤ q := hq; simp at hq; omega)) q1
  go_wp2_with fail
  refine hKK.out _ _ ?_ (fun hHeld => ?_)
  · exact q2
  clear hKK KK
  try simp only [Act.put, List.setIfInBounds_toArray, List.set_cons_zero, List.set_cons_succ]
  refine wpAnyH_done (by kernel_rfl) ?_ _
  go_wp2_with fail
  go_end0
  exact ⟨rfl, r2, hp2.cast (by rw [List.append_assoc, HB.out]), PenStep.below hb (hst1.trans hst2)⟩
set_option maxHeartbeats 8000000 in
set_option maxRecDepth 20000 in
theorem Hash_sum (L : List (Int × Nat)) (w : World) (hL : L.length ≤ 48) (hok : okC L) :
    Calls Try.prog 57 #[.agg (bdL L), .func (.func 58) #[] #[]] w fun e w' => e = .returned (.int .u32 (hashL L : Nat)) ∧ Below w.heap.size w w' := by
  have q0 := BoxL.new_ w L
  have HOK := Lib.hid hok
  have hpn : PenAt ((w.alloc (.cells (bdL L) 32)).alloc (.cells #[.slice none 0 0] 85)) (w.heap.size + 1) none [] := by
    refine ⟨.slice none 0 0, ?_, Row.nil_ _ _, rfl⟩
    have := heap_alloc_new (w.alloc (.cells (bdL L) 32)) (.cells #[.slice none 0 0] 85)
    rwa [show (w.alloc (.cells (bdL L) 32)).heap.size = w.heap.size + 1 by simp] at this
  have q0 := q0.alloc (.cells #[.slice none 0 0] 85)
  have hb := below_alloc2 w (.cells (bdL L) 32) (.cells #[.slice none 0 0] 85)
  have hc0 := BoxB.cn q0
  have ei : (L.length : Int) ≤ 48 := by omega
  have hlen := cellsB_len L
  clear hok
  obtain ⟨n, hn⟩ : ∃ n, n = L.length := ⟨_, rfl⟩
  rw [← hn] at hc0 ei hL hlen
  have hlen2 : (cellsB L).length ≤ 1000 := by omega
  have HN := Lib.hid hn
  clear hn hlen
  go_enter Try.func57, Try.ntmps57
  go_wp2_with fail
  go_loopw [7, 13] (fun p i wr => ∃ (k : Nat) (r : Option Nat), k ≤ n ∧ i = .int .i64 k ∧ BoxL wr w.heap.size L ∧ PenAt wr (w.heap.size + 1) r (cellsB (L.take k)) ∧ (∀ j, r = some j → w.heap.size + 1 < j) ∧ Below w.heap.size w wr) (fun _ i _ => n - (intOf i).toNat)
  case atStart => exact ⟨0, none, Nat.zero_le _, rfl, q0, hpn, fun j hj => (by cases hj), hb⟩
  case round =>
    obtain ⟨k, r, hk, rfl, r0, hp, hrn, hb1⟩ := hrel
    rename_i v0 _
    clear q0 hb hc0 hpn
    by_cases hlt : k < n
    · have hkL : k < L.length := by rw [← HN.out]; exact hlt
      have a0 := BoxB.cv r0 (i := k) (by omega)
      have a1 := BoxB.cl r0 (i := k) (by omega)
      rw [bdF_in hkL] at a0
      rw [bdG_in hkL] at a1
      have hy := (okC_get HOK.out hkL).2
      have hsn : cellsB (L.take (k + 1)) = cellsB (L.take k) ++ cellB L[k] := by rw [take_snoc1 hkL, cellsB_snoc]
      have hpl := cellsB_len (L.take k)
      obtain ⟨p, hp'⟩ : ∃ p, p = L[k] := ⟨_, rfl⟩
      rw [← hp'] at a0 a1 hy hsn
      obtain ⟨x, y⟩ := p
      have HS := Lib.hid hsn
      have ek : (k : Int) < 48 := by omega
      have ej : (k : Int) < (n : Int) := by omega
      simp only at a0 a1 hy
      have hz := r0.lt
      have hpl2 : (cellsB (L.take k)).length ≤ 1000 := by rw [hpl, List.length_take]; omega
      have h9 := below_alloc1 wr (.cells #[.int .i32 x, .int .u32 (y : Int)] 29)
      have hp2 := PenAt.ext hp h9
      have r1 := r0.ext h9
      have hb2 := hb1.trans (h9.mono hb1.size)
      clear hp' hsn hpl
      go_wp2_with fail
      refine (whole_calls x y (w.heap.size + 1) r _ _ hp2 hy (by omega)).mono ?_
      rintro e w2 ⟨rfl, r', hp3, hst⟩
      have r2 : BoxL w2 w.heap.size L := r1.mod hst.2 (fun h => by rcases h with h | h; omega; (have := hrn _ h; omega))
      have hz2 := hb2.size
      have hb3 : Below w.heap.size w w2 := hb2.trans (hst.2.below hb2.size (fun i hi h => by rcases h with h | h; omega; (have := hrn _ h; omega)))
      have hrn2 : ∀ j, r' = some j → w.heap.size + 1 < j := fun j hj => by
        rcases hst.1 with h | ⟨q, h, hq⟩
        · exact hrn j (h ▸ hj)
        · have e := h.symm.trans hj
          injection e with e
          have := hp2.lt
          omega
      go_wp2_with fail
      go_roundw
      case rel => exact ⟨k + 1, r', by omega, by go_num, r2, hp3.cast (by rw [HS.out]), hrn2, hb3⟩
      case measure => simp [intOf]; omega
    · obtain rfl : n = k := by omega
      rw [HN.out, List.take_length] at hp
      go_wp2_with fail
      refine (Make_calls _).mono ?_
      rintro e w3 ⟨rfl, h3⟩
      have hp := PenAt.ext hp h3
      have hb3 := hb1.trans (h3.mono hb1.size)
      clear h3
      go_wp2_with fail
      refine (PenBytes_calls (w.heap.size + 1) r _ _ hp (by omega)).mono ?_
      rintro e w4 ⟨v4, rfl, hrow, h4⟩
      obtain ⟨A4, c4, b4, rfl, _, _, _, _, hs4, _⟩ := hrow.sl
      have hb4 := hb3.trans (h4.mono hb3.size)
      clear h4 hrow
      have h5 := below_alloc1 w4 (.cells #[.slice A4 (cellsB L).length c4] 36)
      have hs5 := Sl.ext hs4 h5
      have hb5 := hb4.trans (h5.mono hb4.size)
      have hsl := Sl.one_new w4 (.slice A4 (cellsB L).length c4) 36
      go_wp2_with fail
      refine (TableSum_calls _ [.slice A4 (cellsB L).length c4] [cellsB L] 1 1 w4.heap.size _ hsl (Bss.cons hs5 rfl (Bss.nil_ _)) rfl (by simp [maxLen]) (by simp; omega)).mono ?_
      rintro e w6 ⟨rfl, h6⟩
      have hb6 := hb5.trans (h6.mono hb5.size)
      go_wp2_with fail
      go_ret
      exact ⟨rfl, hb6⟩
set_option maxHeartbeats 1000000 in
set_option maxRecDepth 20000 in
theorem Hash_calls (L : List (Int × Nat)) (w : World) (hL : L.length ≤ 48) (hok : okC L) :
    Calls Try.prog 34 #[.agg (bdL L)] w fun e w' => e = .returned (.int .u32 (hashL L : Nat)) ∧ Below w.heap.size w w' := by
  have q := BoxL.new_ w L
  have hb := below_alloc1 w (.cells (bdL L) 32)
  have hS := fun W => Hash_sum L W hL hok
  obtain ⟨z, hz⟩ : ∃ z, z = hashL L := ⟨_, rfl⟩
  rw [← hz] at hS ⊢
  clear hz
  go_enter Try.func34, Try.ntmps34
  go_wp2_with ((with_reducible refine at_ld 32 1 ?_); refine wpList_ld rfl (.tmp 1) rfl w.heap.size rfl L q ?_)
  refine (hS _).mono ?_
  rintro e w1 ⟨rfl, h1⟩
  go_wp2_with fail
  go_ret
  exact ⟨rfl, hb.trans (h1.mono hb.size)⟩
end Go.Proofs.Ytpppjlcfhijdgaa
