/- Put: frames on their way, each with the fault of its place. Conditions: those said. -/
import Derived.Test.YtbcfelihncnofaaWiA
import Derived.Test.YtbcfelihncnofaaRowS
namespace Go.Proofs.Ytbcfelihncnofaa
open Go.RowKit
set_option linter.unusedVariables false

/-- A slice that reads so, whose block holds that type. -/
def SlT (e : TypeId) (w : World) (b : Nat) (A : Option Addr) (xs : List Value) : Prop := Sl w b A xs ∧ (xs ≠ [] → ∃ cur fr, w.heap[b]? = some (.cells cur e fr))
theorem SlT.mod {e : TypeId} {w w' : World} {b : Nat} {A : Option Addr} {xs : List Value} (h : SlT e w b A xs) {S : Nat → Prop} (hm : Mod S w w') (hs : ∀ cur fr, w.heap[b]? = some (.cells cur e fr) → ¬ S b) : SlT e w' b A xs := by
  by_cases h0 : xs = []
  · subst h0; exact ⟨Sl.nil_ _ _ _, fun h => absurd rfl h⟩
  · obtain ⟨cur, fr, hc⟩ := h.2 h0
    have hb : w'.heap[b]? = w.heap[b]? := hm.block b (h.1.lt h0) (hs _ _ hc)
    exact ⟨h.1.keep (fun _ => hb), fun _ => ⟨cur, fr, hb.trans hc⟩⟩
theorem SlT.ext {e : TypeId} {w w' : World} {b : Nat} {A : Option Addr} {xs : List Value} (h : SlT e w b A xs) (hm : Below w.heap.size w w') : SlT e w' b A xs :=
  h.mod (Mod.of_below hm) (fun cur fr hc => by have := (Array.getElem?_eq_some_iff.1 hc).1; omega)
theorem SlT.nil_ (e : TypeId) (w : World) (b : Nat) (A : Option Addr) : SlT e w b A [] := ⟨Sl.nil_ _ _ _, fun h => absurd rfl h⟩
/-- A row of the call's own. -/
theorem SlT.of_own {w : World} {B n sz : Nat} {e : TypeId} {v : Value} {xs : List Value} (h : w.ownsRow B e sz v n xs) : ∃ A c b, v = .slice A n c ∧ n ≤ c ∧ c ≤ maxLen ∧ B ≤ b ∧ SlT e w b A xs ∧ (∀ k, v.ownBlock = some k → k = b) := by
  obtain ⟨A, c, b, rfl, h1, h2, -, h4, h5, h6⟩ := own_sl h
  refine ⟨A, c, b, rfl, h1, h2, h4, ⟨h5, fun hne => ?_⟩, h6⟩
  rcases h.2 with ⟨hv, hn⟩ | ⟨g, cap, cur, hv, _, hh, _⟩
  · have hl := h.1
    rw [hn] at hl
    exact absurd (List.eq_nil_of_length_eq_zero (by omega)) hne
  · obtain rfl : g = b := h6 g (by rw [hv]; rfl)
    exact ⟨_, _, hh⟩
theorem SlT.new_ (w : World) (cs : Array Value) (e : TypeId) : SlT e (w.alloc (.cells cs e)) w.heap.size (some ⟨w.heap.size, 0, none⟩) cs.toList :=
  ⟨Sl.cells_new w cs e, fun _ => ⟨_, _, heap_alloc_new w _⟩⟩
theorem SlT.ne_box {e t : TypeId} {w : World} {b g : Nat} {A : Option Addr} {xs : List Value} {v : Value} (h : SlT e w b A xs) (q : Box w g v t) (ht : t ≠ e) (h0 : xs ≠ []) : b ≠ g := fun hh => by
  subst hh
  obtain ⟨cur, fr, hc⟩ := h.2 h0
  rw [q] at hc
  injection hc with hc
  injection hc with _ h2 _
  exact ht h2
theorem SlT.ne_row {e t : TypeId} {w : World} {b B n sz : Nat} {A : Option Addr} {xs ys : List Value} {v : Value} (h : SlT e w b A xs) (q : w.ownsRow B t sz v n ys) (ht : e ≠ t) (h0 : xs ≠ []) : v.ownBlock ≠ some b := by
  obtain ⟨cur, fr, hc⟩ := h.2 h0
  exact row_apart q hc ht
theorem WStep.slT {B g : Nat} {v v' : Value} {ps xs : List Pl} {w w' : World} (h : WStep B g v ps xs w w' v') (q : Box w g v 26) (hr : RowW 68 w B v ps) {e : TypeId} {b : Nat} {A : Option Addr} {us : List Value} (hu : SlT e w b A us) (h1 : 26 ≠ e) (h2 : e ≠ 68) : SlT e w' b A us :=
  hu.mod h.mod (fun cur fr hc hh => by
    rcases hh with rfl | hh
    · rw [q] at hc
      injection hc with hc
      injection hc with _ h3 _
      exact h1 h3
    · exact row_apart hr hc h2 hh)
/-- Lists of bytes, each in a row of bytes. -/
def BssT (w : World) (us : List Value) (ls : List (List UInt8)) : Prop :=
  us.length = ls.length ∧ ∀ (i : Nat) (l : List UInt8), ls[i]? = some l → ∃ A c b, us[i]? = some (Value.slice A l.length c) ∧ SlT 5 w b A (bv l)
theorem BssT.nil_ (w : World) : BssT w [] [] := ⟨rfl, fun i l h => by simp at h⟩
theorem BssT.cons {w : World} {vs : List Value} {ls : List (List UInt8)} {A : Option Addr} {l : List UInt8} {n c b : Nat} (h : SlT 5 w b A (bv l)) (hn : l.length = n) (r : BssT w vs ls) : BssT w (Value.slice A n c :: vs) (l :: ls) :=
  ⟨by simp [r.1], fun i x hx => by
    cases i with
    | zero =>
      simp at hx
      subst hx
      exact ⟨A, c, b, by simp [hn], h⟩
    | succ i =>
      obtain ⟨A', c', b', h1, h2⟩ := r.2 i x (by simpa using hx)
      exact ⟨A', c', b', by simpa using h1, h2⟩⟩
theorem BssT.ext {w w' : World} {us : List Value} {ls : List (List UInt8)} (h : BssT w us ls) (hm : Below w.heap.size w w') : BssT w' us ls :=
  ⟨h.1, fun i l hl => by obtain ⟨A, c, b, h1, h2⟩ := h.2 i l hl; exact ⟨A, c, b, h1, h2.ext hm⟩⟩
theorem BssT.bss {w : World} {us : List Value} {ls : List (List UInt8)} (h : BssT w us ls) : Bss w us ls :=
  ⟨h.1, fun i l hl => by obtain ⟨A, c, b, h1, h2⟩ := h.2 i l hl; exact ⟨A, c, b, h1, h2.1⟩⟩
theorem BssT.step {w w' : World} {us : List Value} {ls : List (List UInt8)} (h : BssT w us ls) {B g : Nat} {v v' : Value} {ps xs : List Pl} (k : WStep B g v ps xs w w' v') (q : Box w g v 26) (hr : RowW 68 w B v ps) : BssT w' us ls :=
  ⟨h.1, fun i l hl => by obtain ⟨A, c, b, h1, h2⟩ := h.2 i l hl; exact ⟨A, c, b, h1, k.slT q hr h2 (by decide) (by decide)⟩⟩
theorem RowsIn.bssT {w : World} {B : Nat} {us : List Value} {ls : List (List UInt8)} (h : RowsIn w B us ls) : BssT w us ls :=
  ⟨h.1, fun i l hl => by
    obtain ⟨u, h1, h2⟩ := h.2 i l hl
    obtain ⟨A, c, b, rfl, _, _, _, hs, _⟩ := SlT.of_own h2
    exact ⟨A, c, b, h1, hs⟩⟩

/-- Faults as they lie. -/
def ftv (fs : List Ft) : List Value := fs.flatMap Ft.cells
theorem ftv_cons (x : Ft) (xs : List Ft) : ftv (x :: xs) = x.cells ++ ftv xs := rfl
theorem ftv_append (xs ys : List Ft) : ftv (xs ++ ys) = ftv xs ++ ftv ys := by simp [ftv]
@[simp] theorem ftv_length (xs : List Ft) : (ftv xs).length = xs.length * 3 := by
  induction xs with
  | nil => rfl
  | cons x l ih => rw [ftv_cons, List.length_append, ih, List.length_cons]; simp; omega
theorem ftv_at : ∀ (xs : List Ft) (k : Nat) (hk : k < xs.length) (j : Nat), j < 3 → (ftv xs)[k * 3 + j]? = xs[k].cells[j]?
  | x :: l, 0, _, j, hj => by
    rw [ftv_cons, List.getElem?_append_left (by simp; omega)]
    simp
  | x :: l, k + 1, hk, j, hj => by
    rw [ftv_cons, List.getElem?_append_right (by simp; omega), show (k + 1) * 3 + j - x.cells.length = k * 3 + j by simp; omega, ftv_at l k (by simpa using hk) j hj]
    simp
theorem ftv_one (xs : List Ft) : ∀ u ∈ ftv xs, u.oneCell' = true := fun u hu => by
  obtain ⟨x, _, hx⟩ := List.mem_flatMap.1 hu
  simp at hx
  rcases hx with rfl | rfl | rfl <;> rfl
theorem sl_ft {w : World} {b : Nat} {A : Option Addr} {xs : List Ft} (h : Sl w b A (ftv xs)) {k : Nat} (hk : k < xs.length) :
    ∃ off, A = some ⟨b, off, none⟩ ∧ w.cell? ⟨b, off + k * 3, none⟩ = some (.int .u8 (xs[k].how : Int)) ∧ w.cell? ⟨b, off + k * 3 + 1, none⟩ = some (.int .u16 (xs[k].pos : Int)) ∧ w.cell? ⟨b, off + k * 3 + 2, none⟩ = some (.int .u32 (xs[k].mask : Int)) := by
  have hne : ftv xs ≠ [] := by
    intro h0
    have := ftv_length xs
    rw [h0] at this
    simp at this
    omega
  obtain ⟨off, e, hc⟩ := h hne
  exact ⟨off, e, hc (k * 3 + 0) _ (ftv_at xs k hk 0 (by omega)), hc (k * 3 + 1) _ (ftv_at xs k hk 1 (by omega)), hc (k * 3 + 2) _ (ftv_at xs k hk 2 (by omega))⟩
def fz : Ft := ⟨0, 0, 0⟩
/-- What becomes of the first k frames. -/
def putsN (ls : List (List UInt8)) (fs : List Ft) (k : Nat) : List (List UInt8 × Int) := (List.range k).flatMap fun i => putN (ls.getD i []) (fs.getD i fz)
theorem putsN_next (ls : List (List UInt8)) (fs : List Ft) (k : Nat) : putsN ls fs (k + 1) = putsN ls fs k ++ putN (ls.getD k []) (fs.getD k fz) := by simp [putsN, List.range_succ]
theorem putN_length (l : List UInt8) (f : Ft) : (putN l f).length ≤ 2 := by
  unfold putN
  repeat' split
  all_goals simp
theorem putsN_length (ls : List (List UInt8)) (fs : List Ft) (k : Nat) : (putsN ls fs k).length ≤ 2 * k := by
  induction k with
  | zero => simp [putsN]
  | succ k ih => rw [putsN_next, List.length_append]; have := putN_length (ls.getD k []) (fs.getD k fz); omega
set_option maxHeartbeats 8000000 in
set_option maxRecDepth 20000 in
theorem Put_calls (B g : Nat) (v : Value) (ps : List Pl) (A1 : Option Addr) (us : List Value) (ls : List (List UInt8)) (n1 c1 b1 : Nat) (A2 : Option Addr) (fs : List Ft) (n2 c2 b2 : Nat) (w : World) (q : Box w g v 26) (hr : RowW 68 w B v ps)
    (hs : SlT 46 w b1 A1 us) (hu : BssT w us ls) (hn1 : ls.length = n1) (hll : ∀ l ∈ ls, l.length ≤ 1000000) (hf : SlT 50 w b2 A2 (ftv fs)) (hn2 : fs.length = n2) (hfo : ∀ f ∈ fs, f.ok) (hps : ps.length + 2 * n1 ≤ 99000) (hm2 : n2 ≤ maxLen) (hB : B ≤ w.heap.size) :
    Calls Try.prog 11 #[.pointer (some ⟨g, 0, none⟩), .slice A1 n1 c1, .slice A2 n2 c2] w fun e w' => e = .returned (.tuple #[]) ∧ WPut B g v ps (putsN ls fs n1) w w' := by
  unfold maxLen at hm2
  have HN1 := Lib.hid hn1
  have HN2 := Lib.hid hn2
  have HPS := Lib.hid hps
  have hn1m : n1 ≤ 99000 := by omega
  clear hn1 hn2 hps
  go_enter Try.func11, Try.ntmps11
  go_wp2_with fail
  go_loopw [13] (fun i wr => ∃ k : Nat, k ≤ n1 ∧ i = .int .i64 k ∧ WPut B g v ps (putsN ls fs k) w wr) (fun i _ => n1 - (intOf i).toNat)
  case atStart => exact ⟨0, Nat.zero_le _, rfl, ⟨v, [], WStep.refl q hr, rfl⟩⟩
  case round =>
    obtain ⟨k, hk, rfl, ⟨v1, xs, hst, hkey⟩⟩ := hrel
    by_cases hlt : k < n1
    · have hkl : k < ls.length := by rw [HN1.out]; exact hlt
      have hs1 := hst.slT q hr hs (by decide) (by decide)
      obtain ⟨A3, c3, b3, hv1, hs3⟩ := (hu.step hst q hr).2 k ls[k] (List.getElem?_eq_getElem hkl)
      obtain ⟨oa, rfl, hca⟩ := hs1.1 (by rintro rfl; simp at hv1)
      have ca := hca k _ hv1
      have hxl : xs.length ≤ 2 * k := by
        have := congrArg List.length hkey
        rw [List.length_map] at this
        rw [this]
        exact putsN_length ls fs k
      have hll1 := hll ls[k] (List.getElem_mem _)
      obtain ⟨l, hl⟩ : ∃ l, l = ls[k] := ⟨_, rfl⟩
      have hlg : ls.getD k [] = l := by rw [hl, List.getD_eq_getElem?_getD, List.getElem?_eq_getElem hkl]; rfl
      rw [← hl] at ca hs3 hll1
      obtain ⟨n3, hn3⟩ : ∃ n3, l.length = n3 := ⟨_, rfl⟩
      rw [hn3] at ca hll1
      have hP := fun (f : Ft) W (hW : Below wr.heap.size wr W) hok => put_calls B g v1 (ps ++ xs) A3 l n3 c3 b3 f W (hst.box.ext hW) (own_ext hst.row hW) (hs3.ext hW).1 (fun h0 => ⟨(hs3.ext hW).ne_box (hst.box.ext hW) (by decide) (by rw [ne_eq, bv_nil_iff]; exact h0), (hs3.ext hW).ne_row (own_ext hst.row hW) (by decide) (by rw [ne_eq, bv_nil_iff]; exact h0)⟩) hn3 hll1 (by rw [List.length_append]; have := HPS.out; omega) (Nat.le_trans hB (Nat.le_trans hst.mod.size hW.size)) hok
      have HST := Lib.hid hst
      have HKEY := Lib.hid hkey
      have HLG := Lib.hid hlg
      by_cases hf2 : k < n2
      · have hkf : k < fs.length := by rw [HN2.out]; exact hf2
        obtain ⟨of, rfl, d0, d1, d2⟩ := sl_ft (hst.slT q hr hf (by decide) (by decide)).1 hkf
        have hok := hfo fs[k] (List.getElem_mem _)
        obtain ⟨f, hfe⟩ : ∃ f, f = fs[k] := ⟨_, rfl⟩
        have hfg : fs.getD k fz = f := by rw [hfe, List.getD_eq_getElem?_getD, List.getElem?_eq_getElem hkf]; rfl
        rw [← hfe] at d0 d1 d2 hok
        have HFG := Lib.hid hfg
        have ha := below_alloc1 wr (.cells #[.int .u8 0, .int .u16 0, .int .u32 0] 50)
        replace d0 := sl_same ha d0
        replace d1 := sl_same ha d1
        replace d2 := sl_same ha d2
        have HP := Lib.hid hP
        clear hfe hfg hl hlg hn3 hca hv1 hs3 hs1 hst hkey hxl hP ha
        go_wp2_with fail
        have ha := below_alloc1 wr (.cells #[.int .u8 (f.how : Int), .int .u16 (f.pos : Int), .int .u32 (f.mask : Int)] 50)
        have hP2 := HP.out f _ ha hok
        clear d0 d1 d2
        refine hP2.mono ?_
        rintro e w2 ⟨rfl, ⟨v2, ys, hst2, hk2⟩⟩
        have HS2 := Lib.hid hst2
        have HK2 := Lib.hid hk2
        have HA := Lib.hid ha
        clear hst2 hk2 hP2 ha
        go_wp2_with fail
        go_roundw
        case rel => exact ⟨k + 1, by omega, by go_num, ⟨v2, xs ++ ys, HST.out.trans (HS2.out.after HA.out), by rw [List.map_append, HKEY.out, HK2.out, putsN_next, HLG.out, HFG.out]⟩⟩
        case measure => simp [intOf]; omega
      · have hfg : fs.getD k fz = fz := by rw [List.getD_eq_getElem?_getD, List.getElem?_eq_none (by rw [HN2.out]; omega)]; rfl
        have HFG := Lib.hid hfg
        have HP := Lib.hid hP
        clear hfg hl hlg hn3 hca hv1 hs3 hs1 hst hkey hxl hP
        go_wp2_with fail
        have ha := below_alloc1 wr (.cells #[.int .u8 0, .int .u16 0, .int .u32 0] 50)
        have hP2 := HP.out fz _ ha ⟨by decide, by decide, by decide⟩
        refine hP2.mono ?_
        rintro e w2 ⟨rfl, ⟨v2, ys, hst2, hk2⟩⟩
        have HS2 := Lib.hid hst2
        have HK2 := Lib.hid hk2
        have HA := Lib.hid ha
        clear hst2 hk2 hP2 ha
        go_wp2_with fail
        go_roundw
        case rel => exact ⟨k + 1, by omega, by go_num, ⟨v2, xs ++ ys, HST.out.trans (HS2.out.after HA.out), by rw [List.map_append, HKEY.out, HK2.out, putsN_next, HLG.out, HFG.out]⟩⟩
        case measure => simp [intOf]; omega
    · obtain rfl : k = n1 := by omega
      go_wp2_with fail
      go_end0
      exact ⟨rfl, ⟨v1, xs, hst, hkey⟩⟩
end Go.Proofs.Ytbcfelihncnofaa
