/- What Take does. Conditions: the numbers fit. -/
import Derived.Test.YtglmciklegifaaaDoorDkD
namespace Go.Proofs.YtglmciklegifaaaDoor
open Go.RowKit

/-- Numbers of 32 bits as values. -/
def wv (l : List Nat) : List Value := l.map fun (x : Nat) => Value.int .u32 (x : Int)
@[simp] theorem wv_length (l : List Nat) : (wv l).length = l.length := by simp [wv]
theorem wv_get (l : List Nat) (k : Nat) (h : k < (wv l).length) : (wv l)[k] = .int .u32 ((l[k]'(by simpa using h) : Nat) : Int) := by simp [wv]
theorem u32_info : (Tryd.prog.info? 22).map (fun i => (i.zero, i.size, i.bytes)) = some (some (.int .u32 0), 1, 4) := by kernel_rfl
abbrev RowW (w : World) (B : Nat) (v : Value) (l : List Nat) : Prop := w.ownsRow B 22 1 v l.length (wv l)
theorem RowW.set_ {w : World} {B k : Nat} {v : Value} {l : List Nat} (h : RowW w B v l) (hk : k < l.length) :
    ∃ g cap, v = .slice (some ⟨g, 0, none⟩) l.length cap ∧ B ≤ g ∧ g < w.heap.size ∧ w.cell? ⟨g, k, none⟩ = some (.int .u32 (l[k] : Int)) ∧ w.frozen? ⟨g, k, none⟩ = false ∧
      ∀ (m : Nat) w', w'.heap[g]? = (w.setCell ⟨g, k, none⟩ (.int .u32 (m : Int))).heap[g]? → RowW w' B v (l.set k m) := by
  rcases h.2 with ⟨_, hn⟩ | ⟨g, cap, cur, hv, hg, hh, hnc, hcm, hcs, hct⟩
  · omega
  · have hlt : k < cur.size := by omega
    have hct' : cur.toList.take l.length = wv l := by simpa using hct
    refine ⟨g, cap, hv, hg, (Array.getElem?_eq_some_iff.1 hh).1, ?_, frozen_of_row w g k _ _ hh, fun m w' hw => ?_⟩
    · rw [cell_of_row w g k _ _ _ hh]
      have h1 : (cur.toList.take l.length)[k]? = some (.int .u32 (l[k] : Int)) := by
        rw [hct', List.getElem?_eq_getElem (by simpa using hk), wv_get]
      rw [List.getElem?_take, if_pos hk] at h1
      simpa using h1
    · rw [heap_setCell_same w g k cur _ _ hh] at hw
      refine ⟨by simp, .inr ⟨g, cap, _, by rw [hv]; simp, hg, hw, by simpa using hnc, hcm, by simpa using hcs, ?_⟩⟩
      have h2 : (cur.setIfInBounds k (.int .u32 (m : Int))).toList = cur.toList.set k (.int .u32 (m : Int)) := by simp
      rw [h2]
      simp only [Nat.mul_one, List.length_set]
      rw [List.take_set, hct']
      simp [wv, List.map_set]
theorem RowW.keep {w w' : World} {B g n cap : Nat} {l : List Nat} (h : RowW w B (.slice (some ⟨g, 0, none⟩) n cap) l) (hb : w'.heap[g]? = w.heap[g]?) : RowW w' B (.slice (some ⟨g, 0, none⟩) n cap) l := by
  refine ⟨h.1, ?_⟩
  rcases h.2 with ⟨hv, _⟩ | ⟨g', cap', cur, hv, hB, hh, r⟩
  · cases hv
  · have hv' := hv
    injection hv with h1 h2 h3
    injection h1 with h1
    injection h1 with h1 _ _
    subst h1
    exact .inr ⟨_, cap', cur, hv', hB, hb.trans hh, r⟩
theorem RowW.sl {w : World} {B g n cap : Nat} {l : List Nat} (h : RowW w B (.slice (some ⟨g, 0, none⟩) n cap) l) : l.length = n ∧ n ≤ cap ∧ Sl w g (some ⟨g, 0, none⟩) (wv l) := by
  rcases h.2 with ⟨hv, _⟩ | ⟨g', cap', cur, hv, hb, _, hnc, hcm, _⟩
  · cases hv
  · injection hv with h1 h2 h3
    injection h1 with h1
    injection h1 with h1 _ _
    subst h1 h2 h3
    refine ⟨rfl, hnc, fun _ => ⟨0, rfl, fun j u hu => ?_⟩⟩
    have := h.cells (g := g) rfl j u hu
    simpa [Addr.add_lit] using this
theorem at_mkS {P : Program} {ops : Array Oper} {rest : List Oper} {a : Act} {w : World} {Q : Exit → Act → World → Prop} {d : Option Tmp} {ty : TypeId} {pos : String} {af : Array Edge} {g : Option (Nat × Bool)} (T : TypeId) (x y : Tmp) (h : wpList P ops Q (Oper.mk d (.makeSlice T (.tmp x) (.tmp y)) ty pos af g :: rest) a w) : wpList P ops Q (Oper.mk d (.makeSlice T (.tmp x) (.tmp y)) ty pos af g :: rest) a w := h
theorem made_u32 (n : Nat) : (madeCells (Value.int .u32 0).cells (n * 1)).toList = wv (List.replicate n 0) := by
  apply List.ext_getElem (by simp [madeCells])
  intro j h1 h2
  simp [madeCells, Value.cells, wv]
  rw [Nat.mod_one]
  rfl
theorem fill_nextW (g : Nat → Nat) (n k : Nat) (hk : k < n) : ((List.range k).map g ++ List.replicate (n - k) 0).set k (g k) = (List.range (k + 1)).map g ++ List.replicate (n - (k + 1)) 0 := by
  obtain ⟨r, hr⟩ : ∃ r, n - k = r + 1 := ⟨n - k - 1, by omega⟩
  rw [List.set_append_right _ _ (by simp), List.length_map, List.length_range, Nat.sub_self, hr, List.replicate_succ, List.set_cons_zero, show n - (k + 1) = r by omega, List.range_succ]
  simp

/-- The moves that are left when those of the players below k for the tick T were taken. -/
def takeF (f : MF) (T k : Nat) : MF := fun p t => if 0 ≤ p ∧ p < (k : Int) ∧ t = T then none else f p t
theorem takeF_zero (f : MF) (T : Nat) : takeF f T 0 = f := by
  funext p t
  unfold takeF
  rw [if_neg (by omega)]
theorem takeF_succ (f : MF) (T k : Nat) : updF (takeF f T k) (k : Int) T none = takeF f T (k + 1) := by
  funext p t
  unfold updF takeF
  by_cases h : p = (k : Int) ∧ t = T
  · rw [if_pos h, if_pos (by omega)]
  · rw [if_neg h]
    by_cases h2 : 0 ≤ p ∧ p < (k : Int) ∧ t = T
    · rw [if_pos h2, if_pos (by omega)]
    · rw [if_neg h2, if_neg (by omega)]
theorem takeF_at (f : MF) (T k : Nat) : takeF f T k (k : Int) T = f (k : Int) T := by
  unfold takeF
  rw [if_neg (by omega)]
def takT (s : DkS) : Nat := (s.tk + 1) % 4294967296
def takeS (s : DkS) : DkS := ⟨s.pl, s.mv, s.df, takT s, s.n, takeF s.f (takT s) s.pl⟩
def takeL (s : DkS) : List Nat := (List.range s.pl).map fun (p : Nat) => (s.f (p : Int) (takT s)).getD s.df
set_option maxHeartbeats 8000000 in
set_option maxRecDepth 20000 in
theorem Take_calls (b bm : Nat) (s : DkS) (w : World) (h : Dk w b bm s) :
    Calls Tryd.prog 14 #[.pointer (some ⟨b, 0, none⟩)] w fun e w' => ∃ g, e = .returned (.slice (some ⟨g, 0, none⟩) s.pl s.pl) ∧ RowW w' g (.slice (some ⟨g, 0, none⟩) s.pl s.pl) (takeL s) ∧ w.heap.size ≤ g ∧ Dk w' b bm (takeS s) ∧ Mod (fun i => i = b ∨ i = bm) w w' := by
  have htk := h.ok.t
  obtain ⟨T, hT⟩ : ∃ T, T = takT s := ⟨_, rfl⟩
  have hT' : T = (s.tk + 1) % 4294967296 := hT
  have eT : ((s.tk : Int) + 1) % 4294967296 = (T : Int) := by omega
  have eT2 : IntKind.u32.wrap ((s.tk : Int) + 1) = (T : Int) := by rw [← eT]; rfl
  have hTl : T < 4294967296 := by omega
  have HTS := Lib.hid (show takeS s = ⟨s.pl, s.mv, s.df, T, s.n, takeF s.f T s.pl⟩ by rw [hT]; rfl)
  have HTL := Lib.hid (show takeL s = (List.range s.pl).map fun (p : Nat) => (s.f (p : Int) T).getD s.df by rw [hT]; rfl)
  have hpl := h.ok.p
  obtain ⟨i0, hi0, hz0, hz1, hz2⟩ := info_parts u32_info
  obtain ⟨d0, d1, d2, d3, d4, d5, d6, d7⟩ := dbox8_all h.box
  have hf6 := frozen_of_row w b 6 _ _ h.box
  clear hT hT'
  go_enter Tryd.func14, Tryd.ntmps14
  obtain ⟨w1, hw1⟩ : ∃ w1, w1 = w.setCell ⟨b, 6, none⟩ (.int .u32 (T : Int)) := ⟨_, rfl⟩
  have hsm : Mod (fun i => i = b) w w1 := by rw [hw1]; exact Mod.setCell w ⟨b, 6, none⟩ _
  have hw1s := Lib.hid (show w1.heap.size = w.heap.size by rw [hw1]; simp [World.setCell])
  have h1 : Dk w1 b bm ⟨s.pl, s.mv, s.df, T, s.n, takeF s.f T 0⟩ := ⟨by rw [hw1]; exact heap_setCell_same w b 6 _ _ (.int .u32 (T : Int)) h.box, by rw [takeF_zero]; exact h.mv.mod hsm (fun e => h.ne e.symm), ⟨h.ok.p, h.ok.m, h.ok.d, hTl⟩⟩
  have hM : Mod (fun i => i = b ∨ i = bm) w w1 := hsm.mono (fun _ _ e => Or.inl e)
  go_upto_region 4 with fail
  rw [← hw1]
  have hbw := h.lt
  have hbmw := h.ltm
  clear hw1 h hsm eT eT2 htk
  obtain ⟨d0, d1, d2, d3, d4, d5, d6, d7⟩ := dbox8_all h1.box
  go_wp2_with (refine at_mkS 44 21 21 ?_; go_loud (refine wpList_make_full _ rfl (.tmp 21) (.tmp 21) 44 rfl w1.heap.size 22 i0 _ 1 Tryd.underlying44 hi0 hz0 hz1 _ _ (s.pl : Int) (s.pl : Int) s.pl rfl rfl rfl rfl (by rw [hz2]; omega) (by simp only [maxLen]; omega) (Nat.le_refl _) ?_); intro w2 hown hgr)
  rw [made_u32] at hown
  have hm2 : Mod (fun i => i = b ∨ i = bm) w1 w2 := (Mod.of_grown hgr).mono (fun _ _ e => by cases e)
  have hnb : Mod (fun _ => False) w1 w2 := (Mod.of_grown hgr).mono (fun _ _ e => by cases e)
  replace hM := hM.trans hm2 (fun _ _ h => h) (fun _ _ h => h)
  replace h1 := h1.mod hnb (fun h => h) (fun h => h)
  obtain ⟨g, hg⟩ : ∃ g, g = w1.heap.size := ⟨_, rfl⟩
  have hgw : w.heap.size ≤ g := by rw [hg, hw1s.out]; exact Nat.le_refl _
  have hown0 : RowW w2 g (.slice (some ⟨g, 0, none⟩) s.pl s.pl) ((List.range 0).map (fun (p : Nat) => (s.f (p : Int) T).getD s.df) ++ List.replicate (s.pl - 0) 0) := by rw [hg]; unfold RowW; simpa using hown
  rw [← hg]
  clear hown hgr hg hi0 hz0 hz1 hz2 hm2 hnb d0 d1 d2 d3 d4 d5 d6 d7 hw1s hf6
  go_loopw [25] (fun i wr => ∃ k : Nat, k ≤ s.pl ∧ i = .int .i64 k ∧ Hid (RowW wr g (.slice (some ⟨g, 0, none⟩) s.pl s.pl) ((List.range k).map (fun (p : Nat) => (s.f (p : Int) T).getD s.df) ++ List.replicate (s.pl - k) 0)) ∧ Dk wr b bm ⟨s.pl, s.mv, s.df, T, s.n, takeF s.f T k⟩ ∧ Mod (fun i => i = b ∨ i = bm) w wr) (fun i _ => s.pl - (intOf i).toNat)
  case atStart => exact ⟨0, Nat.zero_le _, rfl, Lib.hid hown0, h1, hM⟩
  case round =>
    obtain ⟨k, hk, rfl, hown, h, hM⟩ := hrel
    clear h1 hown0
    by_cases hlt : k < s.pl
    · have hlt' : (k : Int) < (s.pl : Int) := by omega
      have hik : inI (k : Int) := by constructor <;> omega
      have hx : (wr.alloc (.cells #[.int .i64 (k : Int), .int .u32 (T : Int)] 75)).heap[wr.heap.size]? = some (.cells #[.int .i64 (k : Int), .int .u32 (T : Int)] 75 (0, 0)) := heap_alloc_new wr _
      have g1 := below_alloc1 wr (.cells #[.int .i64 (k : Int), .int .u32 (T : Int)] 75)
      have q6 := h.c6
      replace h := h.ext g1
      have hXb : wr.heap.size ≠ bm := by intro e; obtain ⟨es, clock, h8⟩ := h.mv.isMap; rw [← e, hx] at h8; cases h8
      replace hM : Mod (fun i => i = b ∨ i = bm) w (wr.alloc (.cells #[.int .i64 (k : Int), .int .u32 (T : Int)] 75)) := hM.trans (Mod.alloc (fun i => i = b ∨ i = bm) wr _) (fun _ _ h => h) (fun _ _ h => h)
      have hgl0 : g < wr.heap.size := by obtain ⟨g', cap, hv, -, hgl, -⟩ := RowW.set_ hown.out (k := k) (by simp; omega); injection hv with hv; injection hv with hv; injection hv with hv; rw [hv]; exact hgl
      replace hown : Hid (RowW (wr.alloc (.cells #[.int .i64 (k : Int), .int .u32 (T : Int)] 75)) g (.slice (some ⟨g, 0, none⟩) s.pl s.pl) ((List.range k).map (fun (p : Nat) => (s.f (p : Int) T).getD s.df) ++ List.replicate (s.pl - k) 0)) := Lib.hid (RowW.keep hown.out (Below.heap_alloc wr _ g hgl0))
      clear g1
      go_wp2_with fail
      obtain ⟨X, hX⟩ : ∃ X, X = wr.heap.size := ⟨_, rfl⟩
      obtain ⟨w3, hw3⟩ : ∃ w3, w3 = wr.alloc (.cells #[.int .i64 (k : Int), .int .u32 (T : Int)] 75) := ⟨_, rfl⟩
      have hgX : g < X := by omega
      rw [← hw3] at h hx hM hown ⊢
      rw [← hX] at hx hXb ⊢
      clear hw3 hX q6 hgl0
      obtain ⟨d, hd⟩ : ∃ d, d = (takeF s.f T k (k : Int) T).isSome := ⟨_, rfl⟩
      obtain ⟨c, hc⟩ : ∃ c : Int, c = (((takeF s.f T k (k : Int) T).getD 0 : Nat) : Int) := ⟨_, rfl⟩
      obtain ⟨V, hV⟩ : ∃ V : Nat, V = (s.f (k : Int) T).getD s.df := ⟨_, rfl⟩
      have HC := Lib.hid (And.intro hc (And.intro hd hV))
      clear hc hd hV
      refine wp_region_held_drew (S := fun w0 => Dk w0 b bm ⟨s.pl, s.mv, s.df, T, s.n, takeF s.f T k⟩ ∧ w0.heap[X]? = some (.cells #[.int .i64 (k : Int), .int .u32 (T : Int)] 75 (0, 0))) (by kernel_rfl) ?_ (fun hHeld => ?_)
      · exact ⟨h.drew, hx⟩
      refine wpAnyH_take (i := 0) (v := ?av0) (by simp only [List.getElem?_toArray, List.getElem?_cons_zero]; rfl) (by kernel_rfl) (by kernel_rfl) (by kernel_rfl) (by exact fun _ _ _ h => h) (Or.inl ⟨by kernel_rfl, ?ay0⟩) hHeld ?_
      case ay0 => (intro w hSw; (try dsimp only at hSw); obtain ⟨hd9, hx9⟩ := hSw; have q7 := hd9.c7; obtain ⟨x0, x1⟩ := dbox2_all hx9; go_simp; try (with_reducible rfl))
      try simp only [Act.put, List.setIfInBounds_toArray, List.set_cons_zero, List.set_cons_succ]
      refine wpAnyH_take (i := 1) (v := ?av1) (by simp only [List.getElem?_toArray, List.getElem?_cons_succ, List.getElem?_cons_zero]; rfl) (by kernel_rfl) (by kernel_rfl) (by kernel_rfl) (by exact fun _ _ _ h => h) (Or.inl ⟨by kernel_rfl, ?ay1⟩) hHeld ?_
      case ay1 => (intro w hSw; (try dsimp only at hSw); obtain ⟨hd9, hx9⟩ := hSw; have q7 := hd9.c7; obtain ⟨x0, x1⟩ := dbox2_all hx9; go_simp; try (with_reducible rfl))
      try simp only [Act.put, List.setIfInBounds_toArray, List.set_cons_zero, List.set_cons_succ]
      refine wpAnyH_take (i := 2) (v := ?av2) (by simp only [List.getElem?_toArray, List.getElem?_cons_succ, List.getElem?_cons_zero]; rfl) (by kernel_rfl) (by kernel_rfl) (by kernel_rfl) (by exact fun _ _ _ h => h) (Or.inl ⟨by kernel_rfl, ?ay2⟩) hHeld ?_
      case ay2 => (intro w hSw; (try dsimp only at hSw); obtain ⟨hd9, hx9⟩ := hSw; have q7 := hd9.c7; obtain ⟨x0, x1⟩ := dbox2_all hx9; go_simp; try (with_reducible rfl))
      try simp only [Act.put, List.setIfInBounds_toArray, List.set_cons_zero, List.set_cons_succ]
      refine wpAnyH_take (i := 3) (v := ?av3) (by simp only [List.getElem?_toArray, List.getElem?_cons_succ, List.getElem?_cons_zero]; rfl) (by kernel_rfl) (by kernel_rfl) (by kernel_rfl) (by exact fun _ _ _ h => h) (Or.inl ⟨by kernel_rfl, ?ay3⟩) hHeld ?_
      case ay3 => (intro w hSw; (try dsimp only at hSw); obtain ⟨hd9, hx9⟩ := hSw; have q7 := hd9.c7; obtain ⟨x0, x1⟩ := dbox2_all hx9; go_simp; try (with_reducible rfl))
      try simp only [Act.put, List.setIfInBounds_toArray, List.set_cons_zero, List.set_cons_succ]
      refine wpAnyH_take (i := 4) (v := ?av4) (by simp only [List.getElem?_toArray, List.getElem?_cons_succ, List.getElem?_cons_zero]; rfl) (by kernel_rfl) (by kernel_rfl) (by kernel_rfl) (by exact fun _ _ _ h => h) (Or.inl ⟨by kernel_rfl, ?ay4⟩) hHeld ?_
      case ay4 => (intro w hSw; (try dsimp only at hSw); obtain ⟨hd9, hx9⟩ := hSw; have q7 := hd9.c7; obtain ⟨x0, x1⟩ := dbox2_all hx9; go_simp; try (with_reducible rfl))
      try simp only [Act.put, List.setIfInBounds_toArray, List.set_cons_zero, List.set_cons_succ]
      refine wpAnyH_take (i := 5) (by simp only [List.getElem?_toArray, List.getElem?_cons_succ, List.getElem?_cons_zero]; rfl) (by kernel_rfl) (by kernel_rfl) (by kernel_rfl) (by exact fun _ _ _ h => h) (by exact yk_look (by kernel_rfl) (.tmp 38) (.tmp 39) rfl bm s.n (takeF s.f T k) (k : Int) T rfl rfl hik hTl (fun w0 h => h.1.mv) c d HC.out.1.symm HC.out.2.1.symm) hHeld ?_
      try simp only [Act.put, List.setIfInBounds_toArray, List.set_cons_zero, List.set_cons_succ]
      refine wpAnyH_take (i := 6) (v := ?av6) (by simp only [List.getElem?_toArray, List.getElem?_cons_succ, List.getElem?_cons_zero]; rfl) (by kernel_rfl) (by kernel_rfl) (by kernel_rfl) (by exact fun _ _ _ h => h) (Or.inl ⟨by kernel_rfl, ?ay6⟩) hHeld ?_
      case ay6 => (intro w hSw; (try dsimp only at hSw); obtain ⟨hd9, hx9⟩ := hSw; have q7 := hd9.c7; obtain ⟨x0, x1⟩ := dbox2_all hx9; go_simp; try (with_reducible rfl))
      try simp only [Act.put, List.setIfInBounds_toArray, List.set_cons_zero, List.set_cons_succ]
      refine wpAnyH_take (i := 7) (v := ?av7) (by simp only [List.getElem?_toArray, List.getElem?_cons_succ, List.getElem?_cons_zero]; rfl) (by kernel_rfl) (by kernel_rfl) (by kernel_rfl) (by exact fun _ _ _ h => h) (Or.inl ⟨by kernel_rfl, ?ay7⟩) hHeld ?_
      case ay7 => (intro w hSw; (try dsimp only at hSw); obtain ⟨hd9, hx9⟩ := hSw; have q7 := hd9.c7; obtain ⟨x0, x1⟩ := dbox2_all hx9; go_simp; try (with_reducible rfl))
      try simp only [Act.put, List.setIfInBounds_toArray, List.set_cons_zero, List.set_cons_succ]
      refine wpAnyH_take (i := 8) (v := ?av8) (by simp only [List.getElem?_toArray, List.getElem?_cons_succ, List.getElem?_cons_zero]; rfl) (by kernel_rfl) (by kernel_rfl) (by kernel_rfl) (by exact fun _ _ _ h => h) (Or.inl ⟨by kernel_rfl, ?ay8⟩) hHeld ?_
      case ay8 => (intro w hSw; (try dsimp only at hSw); obtain ⟨hd9, hx9⟩ := hSw; have q7 := hd9.c7; obtain ⟨x0, x1⟩ := dbox2_all hx9; go_simp; try (with_reducible rfl))
      try simp only [Act.put, List.setIfInBounds_toArray, List.set_cons_zero, List.set_cons_succ]
      refine wpAnyH_take (i := 9) (v := ?av9) (by simp only [List.getElem?_toArray, List.getElem?_cons_succ, List.getElem?_cons_zero]; rfl) (by kernel_rfl) (by kernel_rfl) (by kernel_rfl) (by exact fun _ _ _ h => h) (Or.inl ⟨by kernel_rfl, ?ay9⟩) hHeld ?_
      case ay9 => (intro w hSw; (try dsimp only at hSw); obtain ⟨hd9, hx9⟩ := hSw; have q7 := hd9.c7; obtain ⟨x0, x1⟩ := dbox2_all hx9; go_simp; try (with_reducible rfl))
      try simp only [Act.put, List.setIfInBounds_toArray, List.set_cons_zero, List.set_cons_succ]
      refine wpAnyH_take (i := 10) (v := ?av10) (by simp only [List.getElem?_toArray, List.getElem?_cons_succ, List.getElem?_cons_zero]; rfl) (by kernel_rfl) (by kernel_rfl) (by kernel_rfl) (by exact fun _ _ _ h => h) (Or.inl ⟨by kernel_rfl, ?ay10⟩) hHeld ?_
      case ay10 => (intro w hSw; (try dsimp only at hSw); obtain ⟨hd9, hx9⟩ := hSw; have q7 := hd9.c7; obtain ⟨x0, x1⟩ := dbox2_all hx9; go_simp; try (with_reducible rfl))
      try simp only [Act.put, List.setIfInBounds_toArray, List.set_cons_zero, List.set_cons_succ]
      refine wpAnyH_done (by kernel_rfl) ?_ _
      try simp only [Act.put, List.setIfInBounds_toArray, List.set_cons_zero, List.set_cons_succ]
      obtain ⟨w4, hw4⟩ : ∃ w4, w4 = World.drew w3 := ⟨_, rfl⟩
      replace h : Dk w4 b bm ⟨s.pl, s.mv, s.df, T, s.n, takeF s.f T k⟩ := by rw [hw4]; exact h.drew
      replace hM : Mod (fun i => i = b ∨ i = bm) w w4 := by rw [hw4]; exact mod_drew hM
      replace hx : w4.heap[X]? = some (.cells #[.int .i64 (k : Int), .int .u32 (T : Int)] 75 (0, 0)) := by rw [hw4]; exact hx
      replace hown := Lib.hid (show RowW w4 g (.slice (some ⟨g, 0, none⟩) s.pl s.pl) ((List.range k).map (fun (p : Nat) => (s.f (p : Int) T).getD s.df) ++ List.replicate (s.pl - k) 0) by rw [hw4]; exact hown.out)
      rw [← hw4]
      clear hw4 hHeld
      have hll : ((List.range k).map (fun (p : Nat) => (s.f (p : Int) T).getD s.df) ++ List.replicate (s.pl - k) 0).length = s.pl := by simp; omega
      obtain ⟨g', cap, hv, -, hgl, hcell, hfr, hset⟩ := RowW.set_ hown.out (k := k) (by rw [hll]; exact hlt)
      injection hv with hv hz1 hz2
      injection hv with hv
      injection hv with hv hz3 hz4
      subst hv
      clear hz1 hz2 hz3 hz4
      have hnext := fill_nextW (fun (p : Nat) => (s.f (p : Int) T).getD s.df) s.pl k hlt
      have HSET := Lib.hid (fun w' (h : w'.heap[g]? = (w4.setCell ⟨g, k, none⟩ (.int .u32 (V : Int))).heap[g]?) => hset V w' h)
      replace hcell : ∃ u, w4.cell? ⟨g, k, none⟩ = some u := ⟨_, hcell⟩
      obtain ⟨u0, hcell⟩ := hcell
      have hgb : b ≠ g := by omega
      have hgm : bm ≠ g := by omega
      have hXg : X ≠ g := by omega
      have q3 := h.c3
      have HN := Lib.hid hnext
      clear hset hll hown hnext
      cases d with
      | true =>
        have ec : c = (V : Int) := by
          have h1 := HC.out.1
          have h2 := HC.out.2.1
          have h3 := HC.out.2.2
          rw [takeF_at] at h1 h2
          cases e : s.f (k : Int) T with
          | none => rw [e] at h2; cases h2
          | some x => rw [e] at h1 h3; rw [h1, h3]; rfl
        subst ec
        go_wp2_with fail
        obtain ⟨w5, hw5⟩ : ∃ w5, w5 = w4.setCell ⟨g, k, none⟩ (.int .u32 (V : Int)) := ⟨_, rfl⟩
        have hrow := HSET.out w5 (by rw [hw5])
        rw [HC.out.2.2, HN.out] at hrow
        have hsm : Mod (fun i => i = g) w4 w5 := by rw [hw5]; exact Mod.setCell w4 ⟨g, k, none⟩ _
        replace h := h.mod hsm hgb hgm
        replace hx := (hsm.block X (dbox_lt hx) hXg).trans hx
        replace hM : Mod (fun i => i = b ∨ i = bm) w w5 := ⟨hsm.os.trans hM.os, hsm.tape.trans hM.tape, hsm.output.trans hM.output, Nat.le_trans hM.size hsm.size, fun i hi hn => (hsm.block i (Nat.lt_of_lt_of_le hi hM.size) (fun e => by omega)).trans (hM.block i hi hn)⟩
        rw [← hw5]
        have HROW := Lib.hid hrow
        clear hw5 hsm hrow HSET hcell hfr q3
        refine wp_region_held_drew (S := fun w0 => (∃ f, Dk w0 b bm ⟨s.pl, s.mv, s.df, T, s.n, f⟩) ∧ w0.heap[X]? = some (.cells #[.int .i64 (k : Int), .int .u32 (T : Int)] 75 (0, 0))) (by kernel_rfl) ?_ (fun hHeld => ?_)
        · exact ⟨⟨_, h.drew⟩, hx⟩
        refine wpAnyH_take (i := 0) (v := ?btv0) (by simp only [List.getElem?_toArray, List.getElem?_cons_zero]; rfl) (by kernel_rfl) (by kernel_rfl) (by kernel_rfl) (by exact fun _ _ _ h => h) (Or.inl ⟨by kernel_rfl, ?bty0⟩) hHeld ?_
        case bty0 => (intro w hSw; (try dsimp only at hSw); obtain ⟨⟨f9, hd9⟩, hx9⟩ := hSw; have q7 := hd9.c7; obtain ⟨x0, x1⟩ := dbox2_all hx9; go_simp; try (with_reducible rfl))
        try simp only [Act.put, List.setIfInBounds_toArray, List.set_cons_zero, List.set_cons_succ]
        refine wpAnyH_take (i := 1) (v := ?btv1) (by simp only [List.getElem?_toArray, List.getElem?_cons_succ, List.getElem?_cons_zero]; rfl) (by kernel_rfl) (by kernel_rfl) (by kernel_rfl) (by exact fun _ _ _ h => h) (Or.inl ⟨by kernel_rfl, ?bty1⟩) hHeld ?_
        case bty1 => (intro w hSw; (try dsimp only at hSw); obtain ⟨⟨f9, hd9⟩, hx9⟩ := hSw; have q7 := hd9.c7; obtain ⟨x0, x1⟩ := dbox2_all hx9; go_simp; try (with_reducible rfl))
        try simp only [Act.put, List.setIfInBounds_toArray, List.set_cons_zero, List.set_cons_succ]
        refine wpAnyH_take (i := 2) (v := ?btv2) (by simp only [List.getElem?_toArray, List.getElem?_cons_succ, List.getElem?_cons_zero]; rfl) (by kernel_rfl) (by kernel_rfl) (by kernel_rfl) (by exact fun _ _ _ h => h) (Or.inl ⟨by kernel_rfl, ?bty2⟩) hHeld ?_
        case bty2 => (intro w hSw; (try dsimp only at hSw); obtain ⟨⟨f9, hd9⟩, hx9⟩ := hSw; have q7 := hd9.c7; obtain ⟨x0, x1⟩ := dbox2_all hx9; go_simp; try (with_reducible rfl))
        try simp only [Act.put, List.setIfInBounds_toArray, List.set_cons_zero, List.set_cons_succ]
        refine wpAnyH_take (i := 3) (v := ?btv3) (by simp only [List.getElem?_toArray, List.getElem?_cons_succ, List.getElem?_cons_zero]; rfl) (by kernel_rfl) (by kernel_rfl) (by kernel_rfl) (by exact fun _ _ _ h => h) (Or.inl ⟨by kernel_rfl, ?bty3⟩) hHeld ?_
        case bty3 => (intro w hSw; (try dsimp only at hSw); obtain ⟨⟨f9, hd9⟩, hx9⟩ := hSw; have q7 := hd9.c7; obtain ⟨x0, x1⟩ := dbox2_all hx9; go_simp; try (with_reducible rfl))
        try simp only [Act.put, List.setIfInBounds_toArray, List.set_cons_zero, List.set_cons_succ]
        refine wpAnyH_take (i := 4) (v := ?btv4) (by simp only [List.getElem?_toArray, List.getElem?_cons_succ, List.getElem?_cons_zero]; rfl) (by kernel_rfl) (by kernel_rfl) (by kernel_rfl) (by exact fun _ _ _ h => h) (Or.inl ⟨by kernel_rfl, ?bty4⟩) hHeld ?_
        case bty4 => (intro w hSw; (try dsimp only at hSw); obtain ⟨⟨f9, hd9⟩, hx9⟩ := hSw; have q7 := hd9.c7; obtain ⟨x0, x1⟩ := dbox2_all hx9; go_simp; try (with_reducible rfl))
        try simp only [Act.put, List.setIfInBounds_toArray, List.set_cons_zero, List.set_cons_succ]
        refine wpAnyH_ready (rs := [5]) (by kernel_rfl) (by simp) ?_
        refine AllReadyH.cons (by simp only [List.getElem?_toArray, List.getElem?_cons_succ, List.getElem?_cons_zero]; rfl) (fun KK hKK => ?_) AllReadyH.nil
        rw [if_pos (by kernel_rfl)]
        refine wp_mapDel (.tmp 57) (.tmp 58) rfl bm s.n (takeF s.f T k) (k : Int) T rfl rfl (Dk.mv h.drew) hik hTl ?_
        intro w6 hv6 hm6 hz6
        rw [takeF_succ] at hv6
        have hM6 := (mod_drew hM).trans hm6 (fun _ _ h => h) (fun _ _ e => Or.inr e)
        have h6 : Dk w6 b bm ⟨s.pl, s.mv, s.df, T, s.n, takeF s.f T (k + 1)⟩ := ⟨(hm6.block b h.lt h.ne).trans h.box, hv6, ⟨h.ok.p, h.ok.m, h.ok.d, h.ok.t⟩⟩
        have hx6 := (hm6.block X (dbox_lt hx) hXb).trans hx
        have hrow6 := RowW.keep (w' := w6) HROW.out (hm6.block g (by show g < w5.heap.size; have := dbox_lt hx; omega) (fun e => hgm e.symm))
        refine hKK.out _ _ ?_ (fun hHeld => ?_)
        · exact ⟨⟨_, h6⟩, hx6⟩
        clear hKK KK
        try simp only [Act.put]
        refine wpAnyH_done (by kernel_rfl) ?_ _
        go_wp2_with fail
        refine ⟨⟨k + 1, by omega, by go_num, Lib.hid hrow6, h6, hM6⟩, by simp [intOf]; omega⟩
      | false =>
        have ec : s.df = V := by
          have h2 := HC.out.2.1
          have h3 := HC.out.2.2
          rw [takeF_at] at h2
          cases e : s.f (k : Int) T with
          | none => rw [e] at h3; rw [h3]; rfl
          | some x => rw [e] at h2; cases h2
        simp only [ec] at q3
        go_wp2_with fail
        obtain ⟨w5, hw5⟩ : ∃ w5, w5 = w4.setCell ⟨g, k, none⟩ (.int .u32 (V : Int)) := ⟨_, rfl⟩
        have hrow := HSET.out w5 (by rw [hw5])
        rw [HC.out.2.2, HN.out] at hrow
        have hsm : Mod (fun i => i = g) w4 w5 := by rw [hw5]; exact Mod.setCell w4 ⟨g, k, none⟩ _
        replace h := h.mod hsm hgb hgm
        replace hx := (hsm.block X (dbox_lt hx) hXg).trans hx
        replace hM : Mod (fun i => i = b ∨ i = bm) w w5 := ⟨hsm.os.trans hM.os, hsm.tape.trans hM.tape, hsm.output.trans hM.output, Nat.le_trans hM.size hsm.size, fun i hi hn => (hsm.block i (Nat.lt_of_lt_of_le hi hM.size) (fun e => by omega)).trans (hM.block i hi hn)⟩
        rw [← hw5]
        have HROW := Lib.hid hrow
        clear hw5 hsm hrow HSET hcell hfr q3
        refine wp_region_held_drew (S := fun w0 => (∃ f, Dk w0 b bm ⟨s.pl, s.mv, s.df, T, s.n, f⟩) ∧ w0.heap[X]? = some (.cells #[.int .i64 (k : Int), .int .u32 (T : Int)] 75 (0, 0))) (by kernel_rfl) ?_ (fun hHeld => ?_)
        · exact ⟨⟨_, h.drew⟩, hx⟩
        refine wpAnyH_take (i := 0) (v := ?bfv0) (by simp only [List.getElem?_toArray, List.getElem?_cons_zero]; rfl) (by kernel_rfl) (by kernel_rfl) (by kernel_rfl) (by exact fun _ _ _ h => h) (Or.inl ⟨by kernel_rfl, ?bfy0⟩) hHeld ?_
        case bfy0 => (intro w hSw; (try dsimp only at hSw); obtain ⟨⟨f9, hd9⟩, hx9⟩ := hSw; have q7 := hd9.c7; obtain ⟨x0, x1⟩ := dbox2_all hx9; go_simp; try (with_reducible rfl))
        try simp only [Act.put, List.setIfInBounds_toArray, List.set_cons_zero, List.set_cons_succ]
        refine wpAnyH_take (i := 1) (v := ?bfv1) (by simp only [List.getElem?_toArray, List.getElem?_cons_succ, List.getElem?_cons_zero]; rfl) (by kernel_rfl) (by kernel_rfl) (by kernel_rfl) (by exact fun _ _ _ h => h) (Or.inl ⟨by kernel_rfl, ?bfy1⟩) hHeld ?_
        case bfy1 => (intro w hSw; (try dsimp only at hSw); obtain ⟨⟨f9, hd9⟩, hx9⟩ := hSw; have q7 := hd9.c7; obtain ⟨x0, x1⟩ := dbox2_all hx9; go_simp; try (with_reducible rfl))
        try simp only [Act.put, List.setIfInBounds_toArray, List.set_cons_zero, List.set_cons_succ]
        refine wpAnyH_take (i := 2) (v := ?bfv2) (by simp only [List.getElem?_toArray, List.getElem?_cons_succ, List.getElem?_cons_zero]; rfl) (by kernel_rfl) (by kernel_rfl) (by kernel_rfl) (by exact fun _ _ _ h => h) (Or.inl ⟨by kernel_rfl, ?bfy2⟩) hHeld ?_
        case bfy2 => (intro w hSw; (try dsimp only at hSw); obtain ⟨⟨f9, hd9⟩, hx9⟩ := hSw; have q7 := hd9.c7; obtain ⟨x0, x1⟩ := dbox2_all hx9; go_simp; try (with_reducible rfl))
        try simp only [Act.put, List.setIfInBounds_toArray, List.set_cons_zero, List.set_cons_succ]
        refine wpAnyH_take (i := 3) (v := ?bfv3) (by simp only [List.getElem?_toArray, List.getElem?_cons_succ, List.getElem?_cons_zero]; rfl) (by kernel_rfl) (by kernel_rfl) (by kernel_rfl) (by exact fun _ _ _ h => h) (Or.inl ⟨by kernel_rfl, ?bfy3⟩) hHeld ?_
        case bfy3 => (intro w hSw; (try dsimp only at hSw); obtain ⟨⟨f9, hd9⟩, hx9⟩ := hSw; have q7 := hd9.c7; obtain ⟨x0, x1⟩ := dbox2_all hx9; go_simp; try (with_reducible rfl))
        try simp only [Act.put, List.setIfInBounds_toArray, List.set_cons_zero, List.set_cons_succ]
        refine wpAnyH_take (i := 4) (v := ?bfv4) (by simp only [List.getElem?_toArray, List.getElem?_cons_succ, List.getElem?_cons_zero]; rfl) (by kernel_rfl) (by kernel_rfl) (by kernel_rfl) (by exact fun _ _ _ h => h) (Or.inl ⟨by kernel_rfl, ?bfy4⟩) hHeld ?_
        case bfy4 => (intro w hSw; (try dsimp only at hSw); obtain ⟨⟨f9, hd9⟩, hx9⟩ := hSw; have q7 := hd9.c7; obtain ⟨x0, x1⟩ := dbox2_all hx9; go_simp; try (with_reducible rfl))
        try simp only [Act.put, List.setIfInBounds_toArray, List.set_cons_zero, List.set_cons_succ]
        refine wpAnyH_ready (rs := [5]) (by kernel_rfl) (by simp) ?_
        refine AllReadyH.cons (by simp only [List.getElem?_toArray, List.getElem?_cons_succ, List.getElem?_cons_zero]; rfl) (fun KK hKK => ?_) AllReadyH.nil
        rw [if_pos (by kernel_rfl)]
        refine wp_mapDel (.tmp 57) (.tmp 58) rfl bm s.n (takeF s.f T k) (k : Int) T rfl rfl (Dk.mv h.drew) hik hTl ?_
        intro w6 hv6 hm6 hz6
        rw [takeF_succ] at hv6
        have hM6 := (mod_drew hM).trans hm6 (fun _ _ h => h) (fun _ _ e => Or.inr e)
        have h6 : Dk w6 b bm ⟨s.pl, s.mv, s.df, T, s.n, takeF s.f T (k + 1)⟩ := ⟨(hm6.block b h.lt h.ne).trans h.box, hv6, ⟨h.ok.p, h.ok.m, h.ok.d, h.ok.t⟩⟩
        have hx6 := (hm6.block X (dbox_lt hx) hXb).trans hx
        have hrow6 := RowW.keep (w' := w6) HROW.out (hm6.block g (by show g < w5.heap.size; have := dbox_lt hx; omega) (fun e => hgm e.symm))
        refine hKK.out _ _ ?_ (fun hHeld => ?_)
        · exact ⟨⟨_, h6⟩, hx6⟩
        clear hKK KK
        try simp only [Act.put]
        refine wpAnyH_done (by kernel_rfl) ?_ _
        go_wp2_with fail
        refine ⟨⟨k + 1, by omega, by go_num, Lib.hid hrow6, h6, hM6⟩, by simp [intOf]; omega⟩
    · obtain rfl : k = s.pl := by omega
      have HROW := Lib.hid (show RowW wr g (.slice (some ⟨g, 0, none⟩) s.pl s.pl) (takeL s) by rw [HTL.out]; have h9 := hown.out; rwa [Nat.sub_self, List.replicate_zero, List.append_nil] at h9)
      clear hown
      go_wp2_with fail
      go_ret
      exact ⟨g, rfl, HROW.out, hgw, by rw [HTS.out]; exact h, hM⟩
end Go.Proofs.YtglmciklegifaaaDoor
