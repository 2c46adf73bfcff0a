/- WirePlays: EVERY SCRIPT of frames and of what becomes of them: what comes, in which order, when, is just the document's. No condition. -/
import Derived.Test.YtbcfelihncnofaaWiRP
import Derived.Test.YtbcfelihncnofaaWiRT
import Derived.Test.YtbcfelihncnofaaWiCn
import Derived.Test.YtbcfelihncnofaaWiF
import Derived.Test.YtbcfelihncnofaaOpenW
namespace Go.Proofs.Ytbcfelihncnofaa
open Go.RowKit
set_option linter.unusedVariables false

theorem TMod.boxT {T1 T2 : TypeId} {B : Nat} {w w' : World} (h : TMod T1 T2 B w w') {g : Nat} {a b : Value} (q : BoxT w g a b) (h1 : 34 ≠ T1) (h2 : 34 ≠ T2) : BoxT w' g a b := (h.keep g _ _ _ q h1 h2).trans q
theorem few_small (ls : List (List UInt8)) (k : Nat) : ∀ l ∈ fewL ls k, l.length ≤ 40 := by
  intro l hl
  unfold fewL at hl
  obtain ⟨x, _, rfl⟩ := List.mem_map.1 hl
  rw [List.length_take]
  omega
theorem fewF_ok {fs : List Ft} (k : Nat) (h : ∀ f ∈ fs, f.ok) : ∀ f ∈ fewF fs k, f.ok := fun f hf => h f (List.mem_of_mem_take (List.mem_of_mem_take hf))
/-- What waits, out of all frames and how many Takes there were. -/
def toK (now : Int) (fs : List (List UInt8 × Int)) : List (List UInt8 × Int) := (restK now fs).map fun x => (x.1, x.2 - now + 1)
theorem toK_append (now : Int) (a b : List (List UInt8 × Int)) : toK now (a ++ b) = toK now a ++ toK now b := by simp [toK, restK]
theorem toK_put (now : Int) (K : List (List UInt8 × Int)) (h : ∀ x ∈ K, 1 ≤ x.2) : toK now (K.map (shK now)) = K := by
  induction K with
  | nil => rfl
  | cons x l ih =>
    have h1 := h x (by simp)
    have e : now ≤ now + (x.2 - 1) := by omega
    rw [List.map_cons, show shK now x :: l.map (shK now) = [shK now x] ++ l.map (shK now) from rfl, toK_append, ih (fun y hy => h y (by simp [hy]))]
    obtain ⟨a, t⟩ := x
    simp only at e
    simp [toK, restK, shK, e]
    omega
theorem toK_length (now : Int) (fs : List (List UInt8 × Int)) : (toK now fs).length = (restK now fs).length := by simp [toK]
theorem atK_append (now : Int) (a b : List (List UInt8 × Int)) : atK now (a ++ b) = atK now a ++ atK now b := by simp [atK]
theorem toK_one {now t : Int} (a : List UInt8) (h : now ≤ t) : toK now [(a, t)] = [(a, t - now + 1)] := by simp [toK, restK, h]
theorem toK_none {now t : Int} (a : List UInt8) (h : ¬ now ≤ t) : toK now [(a, t)] = [] := by simp [toK, restK, h]
theorem nowK_one (a : List UInt8) (t : Int) : nowK [(a, t)] = if t = 1 then [a] else [] := by
  by_cases h : t = 1
  · subst h; rfl
  · have e : (t - 1 == 0) = false := by simp; omega
    rw [if_neg h, nowK, List.filter_cons]
    simp only [e]
    rfl
theorem laterK_one (a : List UInt8) (t : Int) : laterK [(a, t)] = if t = 1 then [] else [(a, t - 1)] := by
  by_cases h : t = 1
  · subst h; rfl
  · have e : (t - 1 == 0) = false := by simp; omega
    rw [if_neg h, laterK, List.map_cons, List.filter_cons]
    simp only [e]
    rfl
theorem atK_one (now t : Int) (a : List UInt8) : atK now [(a, t)] = if t = now then [a] else [] := by
  by_cases h : t = now
  · subst h; simp [atK]
  · have e : (t == now) = false := by simpa using h
    rw [if_neg h, atK, List.filter_cons]
    simp only [e]
    rfl
theorem toK_now (now : Int) (fs : List (List UInt8 × Int)) : nowK (toK now fs) = atK now fs := by
  induction fs with
  | nil => rfl
  | cons x l ih =>
    rw [show x :: l = [x] ++ l from rfl, toK_append, nowK_append, atK_append, ih]
    congr 1
    obtain ⟨a, t⟩ := x
    rw [atK_one]
    by_cases h1 : now ≤ t
    · rw [toK_one a h1, nowK_one]
      by_cases h2 : t = now
      · rw [if_pos h2, if_pos (by omega)]
      · rw [if_neg h2, if_neg (by omega)]
    · rw [toK_none a h1, if_neg (by omega)]
      rfl
theorem toK_later (now : Int) (fs : List (List UInt8 × Int)) : laterK (toK now fs) = toK (now + 1) fs := by
  induction fs with
  | nil => rfl
  | cons x l ih =>
    rw [show x :: l = [x] ++ l from rfl, toK_append, laterK_append, toK_append, ih]
    congr 1
    obtain ⟨a, t⟩ := x
    by_cases h1 : now ≤ t
    · rw [toK_one a h1, laterK_one]
      by_cases h2 : now + 1 ≤ t
      · rw [toK_one a h2, if_neg (by omega), show t - (now + 1) + 1 = t - now + 1 - 1 by omega]
      · rw [toK_none a h2, if_pos (by omega)]
    · rw [toK_none a h1, toK_none a (by omega)]
      rfl
theorem toK_t {now : Int} {fs : List (List UInt8 × Int)} (h : ∀ x ∈ fs, x.2 ≤ 100 ∧ x.1.length ≤ 40) (hn : 0 ≤ now) : ∀ x ∈ toK now fs, 0 ≤ x.2 ∧ x.2 ≤ 1000 := by
  intro x hx
  obtain ⟨y, hy, rfl⟩ := List.mem_map.1 hx
  have h1 := List.mem_filter.1 hy
  have h2 := (h y h1.1).1
  have h3 : now ≤ y.2 := by simpa using h1.2
  simp only
  omega
theorem atK_le (now : Int) (fs : List (List UInt8 × Int)) : (atK now fs).length ≤ fs.length := by
  unfold atK
  rw [List.length_map]
  exact List.length_filter_le _ _
theorem putN_small (l : List UInt8) (f : Ft) : ∀ x ∈ putN l f, x.1.length = l.length := by
  unfold putN
  split
  · simp
  split
  · simp
  split
  · simp
  split
  · simp
  split
  · simp
  · simp
theorem putsN_small {ls : List (List UInt8)} (fs : List Ft) (k : Nat) (h : ∀ l ∈ ls, l.length ≤ 40) : ∀ x ∈ putsN ls fs k, x.1.length ≤ 40 := by
  intro x hx
  obtain ⟨i, _, hx⟩ := List.mem_flatMap.1 hx
  have hl : (ls.getD i []).length ≤ 40 := by
    rw [List.getD_eq_getElem?_getD]
    cases hi : ls[i]? with
    | none => simp
    | some l => exact h l (List.mem_of_getElem? hi)
  rw [putN_small _ _ x hx]
  exact hl
theorem Ri.ext {C g : Nat} {w w' : World} {fs : List (List UInt8 × Int)} {now : Int} (h : Ri C g w fs now) (hm : Below w.heap.size w w') : Ri C g w' fs now := by
  obtain ⟨v, ps, q, hr, hk, hx⟩ := h.out
  exact ⟨v, ps, q.ext hm, own_ext hr hm, hk, fun x h2 => (hx x h2).ext hm⟩
set_option maxHeartbeats 16000000 in
set_option maxRecDepth 40000 in
theorem WirePlays_walk (A : Option Addr) (xs : List TV) (n c b : Nat) (w : World) (hs : Sl w b A (tvv xs)) (hin : ∀ x ∈ xs, TV.In w x) (hn : xs.length = n) (hm : n ≤ maxLen) :
    Calls Try.prog 3 #[.slice A n c] w fun e w' => e = .returned (.bool true) ∧ Below w.heap.size w w' := by
  unfold maxLen at hm
  have HN := Lib.hid hn
  have HIN := Lib.hid hin
  clear hn hin
  go_enter Try.func3, Try.ntmps3
  go_wp2_with fail
  refine (awake_calls _).mono ?_
  rintro e w1 ⟨rfl, hb⟩
  have x1 : Box (w1.alloc (.cells #[.slice none 0 0] 26)) w1.heap.size (.slice none 0 0) 26 := Box.new_ _ _ _
  have x2 := below_alloc1 w1 (.cells #[.slice none 0 0] 26)
  have x3 : (w1.alloc (.cells #[.slice none 0 0] 26)).heap.size = w1.heap.size + 1 := by simp
  obtain ⟨wa, ea⟩ : ∃ wa, wa = w1.alloc (.cells #[.slice none 0 0] 26) := ⟨_, rfl⟩
  rw [← ea] at x1 x2 x3
  have y1 := heap_alloc_new wa (.cells #[.slice none 0 0, .int .i64 0] 30)
  have y2 := below_alloc1 wa (.cells #[.slice none 0 0, .int .i64 0] 30)
  have y3 : (wa.alloc (.cells #[.slice none 0 0, .int .i64 0] 30)).heap.size = w1.heap.size + 1 + 1 := by simp [x3]
  obtain ⟨wb, eb⟩ : ∃ wb, wb = wa.alloc (.cells #[.slice none 0 0, .int .i64 0] 30) := ⟨_, rfl⟩
  rw [← eb] at y1 y2 y3
  rw [x3] at y1
  have hW0 : Wi w1.heap.size 0 w1.heap.size wb [] := Wi.new_ (x1.ext y2)
  have hR0 : Ri w1.heap.size (w1.heap.size + 1) wb [] 0 := ⟨_, [], y1, World.ownsRow_nil _ _ _ _, rfl, by simp⟩
  have hB0 : w1.heap.size ≤ wb.heap.size := by omega
  have hwB : w.heap.size ≤ w1.heap.size := hb.size
  replace hb := hb.trans ((x2.trans (y2.mono x2.size)).mono hb.size)
  clear x1 x2 x3 y1 y2 y3
  go_wp2_with fail
  rw [← ea, ← eb]
  clear ea eb
  obtain ⟨gR, hgR⟩ : ∃ gR, gR = w1.heap.size + 1 := ⟨_, rfl⟩
  obtain ⟨gW, hgW⟩ : ∃ gW, gW = w1.heap.size := ⟨_, rfl⟩
  have hRW : gW ≤ gR := by omega
  rw [← hgR] at hR0 ⊢
  rw [← hgW] at hR0 hW0 hB0 hwB ⊢
  clear hgR hgW
  go_loopw [15] (fun i wr => ∃ (k : Nat) (fs : List (List UInt8 × Int)), k ≤ n ∧ k ≤ 20 ∧ i = .int .i64 k ∧ fs.length ≤ 16 * k ∧ (∀ x ∈ fs, x.2 ≤ 100 ∧ x.1.length ≤ 40) ∧ Wi gW 0 gW wr (toK k fs) ∧ Ri gW gR wr fs k ∧ gW ≤ wr.heap.size ∧ Below w.heap.size w wr) (fun i _ => n - (intOf i).toNat)
  case atStart => exact ⟨0, [], Nat.zero_le _, by omega, rfl, by simp, by simp, hW0, hR0, hB0, hb⟩
  case round =>
    clear hW0 hR0 hB0 hb
    obtain ⟨k, fs, hk, hk20, rfl, hfl, hft, hW, hR, hB, hb⟩ := hrel
    by_cases hlt : k < n
    · have hkl : k < xs.length := by rw [HN.out]; exact hlt
      obtain ⟨oa, rfl, hca⟩ := (Sl.ext hs hb) (by intro h0; have := tvv_length xs; rw [h0] at this; simp at this; omega)
      have d0 := hca (k * 2 + 0) _ (tvv_at xs k hkl 0 (by omega))
      have d1 := hca (k * 2 + 1) _ (tvv_at xs k hkl 1 (by omega))
      rw [Nat.add_zero] at d0
      rw [← Nat.add_assoc] at d1
      have hx := (HIN.out xs[k] (List.getElem_mem _)).ext hb
      obtain ⟨x, hxe⟩ : ∃ x, x = xs[k] := ⟨_, rfl⟩
      rw [← hxe] at d0 d1 hx
      obtain ⟨A1, us, ls, c1, b1, A2, ft, c2, b2⟩ := x
      obtain ⟨n1, hn1⟩ : ∃ n1, ls.length = n1 := ⟨_, rfl⟩
      obtain ⟨n2, hn2⟩ : ∃ n2, ft.length = n2 := ⟨_, rfl⟩
      simp only at d0 d1
      rw [hn1] at d0
      rw [hn2] at d1
      clear hca hxe hkl
      by_cases h20 : 20 ≤ k
      · have hd : decide ((20 : Int) ≤ (k : Int)) = true := by simp; omega
        have hd2 : decide ((k : Int) ≥ 20) = true := by simp; omega
        have ha := below_alloc1 wr (.cells #[.slice A1 n1 c1, .slice A2 n2 c2] 34)
        have HB := Lib.hid (hb.trans (ha.mono hb.size))
        clear hx hW hR hB hb ha hn1 hn2
        go_wp2_with fail
        go_ret
        exact ⟨rfl, HB.out⟩
      · have hd : decide ((20 : Int) ≤ (k : Int)) = false := by simp; omega
        have hd2 : decide ((k : Int) ≥ 20) = false := by simp; omega
        have ha := below_alloc1 wr (.cells #[.slice A1 n1 c1, .slice A2 n2 c2] 34)
        replace hx := hx.ext ha
        replace hW := hW.ext ha
        replace hR := hR.ext ha
        replace hb := hb.trans (ha.mono hb.size)
        replace hB := Nat.le_trans hB ha.size
        have HF := Lib.hid (few_calls A1 us ls n1 c1 b1 A2 ft n2 c2 b2 _ hx.hs hx.hu hn1 (hn1 ▸ hx.hm1) hx.hll hx.hf hn2 (hn2 ▸ hx.hm2))
        have HOK := Lib.hid hx.hok
        have HW := Lib.hid hW
        have HR := Lib.hid hR
        have HB := Lib.hid hB
        have HBB := Lib.hid hb
        have HFL := Lib.hid hfl
        have HFT := Lib.hid hft
        clear hx hW hR hB hb ha hn1 hn2 hfl hft
        go_wp2_with fail
        refine HF.out.mono ?_
        rintro e w3 ⟨x1, x2, x3, rfl, ⟨us1, hr1, hi1, ha1, ha3, hb3⟩⟩
        clear HF
        obtain ⟨M, hM⟩ : ∃ M, M = fewL ls ls.length := ⟨_, rfl⟩
        obtain ⟨F, hFe⟩ : ∃ F, F = fewF ft ft.length := ⟨_, rfl⟩
        have hl1 : M.length ≤ 8 := by rw [hM]; exact fewL_length _ _
        have HZ := Lib.hid (show ∀ l ∈ M, l.length ≤ 40 from by rw [hM]; exact few_small _ _)
        have hz1 : ∀ l ∈ M, l.length ≤ 1000000 := by rw [hM]; exact fun l h => Nat.le_trans (few_small _ _ l h) (by decide)
        have hl2 : F.length ≤ 8 := by rw [hFe]; exact fewF_length _ _
        have hz2 : ∀ f ∈ F, f.ok := by rw [hFe]; exact fewF_ok _ HOK.out
        rw [← hM] at hi1
        rw [← hFe] at ha1 ha3
        obtain ⟨m, hm0⟩ : ∃ m, M.length = m := ⟨_, rfl⟩
        obtain ⟨nf, hnf⟩ : ∃ nf, F.length = nf := ⟨_, rfl⟩
        rw [hm0] at hl1
        rw [hnf] at hl2 ha1 ha3
        obtain ⟨B1, d1', e1', rfl, -, r1, t1⟩ := res_sl hr1 hi1 hm0
        obtain ⟨B2, d2', e2', rfl, -, -, -, r2, -⟩ := SlT.of_own ha1
        obtain ⟨B3, d3', e3', rfl, -, -, -, r3, -⟩ := SlT.of_own ha3
        have hW := HW.out.ext hb3
        have hR := HR.out.ext hb3
        have hB := Nat.le_trans HB.out hb3.size
        have hb := HBB.out.trans (hb3.mono HBB.out.size)
        have ha := below_alloc1 w3 (.cells #[.slice B1 m d1', .slice B2 nf d2'] 34)
        have q7 : BoxT (w3.alloc (.cells #[.slice B1 m d1', .slice B2 nf d2'] 34)) w3.heap.size (.slice B1 m d1') (.slice B2 nf d2') := heap_alloc_new w3 _
        have l0 := q7.c0
        have l1 := q7.c1
        replace r1 := r1.ext ha
        replace t1 := t1.ext ha
        replace r2 := r2.ext ha
        replace r3 := r3.ext ha
        replace hW := hW.ext ha
        replace hR := hR.ext ha
        replace hB := Nat.le_trans hB ha.size
        replace hb := hb.trans (ha.mono hb.size)
        have hkl16 : (toK k fs).length ≤ 320 := by have h1 := toK_length k fs; have h2 := rest_le k fs; have := HFL.out; omega
        have hP := WPut_calls gW 0 gW (toK k fs) B1 us1 M m d1' e1' B2 F nf d2' e2' _ hW r1 t1 hm0 hz1 r2 hnf hz2 (by omega) (by simp only [maxLen]; omega) hB (Nat.le_refl _) (Nat.zero_le _)
        have HP := Lib.hid hP
        have HM := Lib.hid hm0
        have HNF := Lib.hid hnf
        have HQ7 := Lib.hid q7
        have R1 := Lib.hid r1
        have T1 := Lib.hid t1
        have R3 := Lib.hid r3
        have HRR := Lib.hid hR
        have HBX := Lib.hid hB
        have HBY := Lib.hid hb
        clear hP hr1 hi1 ha1 ha3 hM hFe hb3 hW hR hB hb HW HR HB HBB r1 t1 r2 r3 q7 ha hm0 hnf
        go_wp2_with fail
        refine HP.out.mono ?_
        rintro e w5 ⟨rfl, hW, hm5⟩
        clear HP l0 l1
        obtain ⟨w4, hw4⟩ : ∃ w4, w4 = w3.alloc (.cells #[.slice B1 m d1', .slice B2 nf d2'] 34) := ⟨_, rfl⟩
        rw [← hw4] at hm5 HQ7 R1 T1 R3 HRR HBX HBY
        clear hw4
        have q7 := hm5.boxT HQ7.out (by decide) (by decide)
        have r1 := hm5.slT R1.out (by decide) (by decide)
        have t1 := hm5.bssT T1.out (by decide) (by decide)
        have r3 := hm5.slT R3.out (by decide) (by decide)
        have hR := HRR.out.mod hm5 (by decide) (by decide) (by decide) (by decide) (by decide) (by decide)
        have hB := Nat.le_trans HBX.out hm5.bel.size
        have hb := HBY.out.trans (hm5.bel.mono hwB)
        have l0 := q7.c0
        have hQ := RPut_calls gW gR k fs B1 us1 M m d1' e1' B3 F nf d3' e3' w5 hR r1 t1 HM.out hz1 r3 HNF.out hz2 (by have := HFL.out; omega) (by simp only [maxLen]; omega) hB hRW (by omega)
        clear hm5 HQ7 R1 T1 R3 HRR HBX HBY q7 r1 t1 r3 hR
        go_wp2_with fail
        refine hQ.mono ?_
        rintro e w6 ⟨rfl, ⟨v6, ps6, F6, hk6⟩⟩
        clear hQ l0
        replace hW := hW.mod F6.hT (by decide) (by decide) (by decide) (by decide) (by decide) (by decide)
        have hR : Ri gW gR w6 (fs ++ (putsN M F m).map (shK k)) k := ⟨v6, ps6, F6.q, F6.hr, hk6, F6.hx⟩
        replace hB := Nat.le_trans hB F6.hT.bel.size
        replace hb := hb.trans (F6.hT.bel.mono hwB)
        obtain ⟨P, hPe⟩ : ∃ P, P = putsN M F m := ⟨_, rfl⟩
        have hPt : ∀ x ∈ P, x.2 = 1 ∨ x.2 = 2 ∨ x.2 = 3 := by rw [hPe]; exact putsN_t M F m
        have hPs : ∀ x ∈ P, x.1.length ≤ 40 := by rw [hPe]; exact putsN_small F m HZ.out
        have hPl : P.length ≤ 16 := by have := putsN_length M F m; rw [hPe]; omega
        rw [← hPe] at hW hR
        rw [← toK_put k P (fun x hx => by rcases hPt x hx with h | h | h <;> omega), ← toK_append] at hW
        obtain ⟨gs, hgs⟩ : ∃ gs, gs = fs ++ P.map (shK k) := ⟨_, rfl⟩
        have hgl : gs.length ≤ 16 * (k + 1) := by rw [hgs, List.length_append, List.length_map]; have := HFL.out; omega
        have hgt : ∀ x ∈ gs, x.2 ≤ 100 ∧ x.1.length ≤ 40 := by
          intro x hx
          rw [hgs] at hx
          rcases List.mem_append.1 hx with hx | hx
          · exact HFT.out x hx
          · obtain ⟨y, hy, rfl⟩ := List.mem_map.1 hx
            have h1 := hPt y hy
            have h2 := hPs y hy
            simp only [shK]
            exact ⟨by omega, h2⟩
        rw [← hgs] at hW hR
        have hkl : (toK k gs).length ≤ 900000 := by have h1 := toK_length k gs; have h2 := rest_le k gs; omega
        have hW1 := WWait_calls gW 0 gW (toK k gs) w6 hW
        have hR1 := RWait_calls gW gR gs k w6 hR (by omega)
        rw [toK_length] at hW1
        obtain ⟨N, hN⟩ : ∃ N, N = (restK k gs).length := ⟨_, rfl⟩
        rw [← hN] at hW1 hR1
        have hTk := fun W h1 h2 => WTake_calls gW 0 gW (toK k gs) W h1 hkl (toK_t hgt (by omega)) h2 (Nat.le_refl _)
        have HGL := Lib.hid hgl
        have HGT := Lib.hid hgt
        clear F6 hk6 hPe hPt hPs hPl hgs hgl hgt hN hl2 hz2 HFL HFT
        go_wp2_with fail
        refine hW1.mono ?_
        rintro e w7 ⟨rfl, e7⟩
        subst e7
        clear hW1
        go_wp2_with fail
        refine hR1.mono ?_
        rintro e w8 ⟨rfl, hb8⟩
        clear hR1
        replace hW := hW.ext hb8
        replace hR := hR.ext hb8
        replace hB := Nat.le_trans hB hb8.size
        replace hb := hb.trans (hb8.mono hb.size)
        have hT1 := hTk _ hW hB
        clear hTk hb8 hW
        go_wp2_with fail
        refine hT1.mono ?_
        rintro e w9 ⟨vo9, rfl, ⟨us9, hr9, hi9, -, hW, hm9⟩⟩
        clear hT1
        rw [toK_now] at hi9
        rw [toK_later] at hW
        obtain ⟨nt, hnt⟩ : ∃ nt, (atK k gs).length = nt := ⟨_, rfl⟩
        obtain ⟨A9, c9, b9, rfl, -, s9, t9⟩ := res_sl hr9 hi9 hnt
        replace hR := hR.mod hm9 (by decide) (by decide) (by decide) (by decide) (by decide) (by decide)
        replace hB := Nat.le_trans hB hm9.bel.size
        replace hb := hb.trans (hm9.bel.mono hwB)
        have hT2 := RTake_calls gW gR gs k w9 hR (by have := HGL.out; omega) hB hRW (by omega)
        have HNT := Lib.hid hnt
        clear hr9 hi9 hm9 hR hnt
        go_wp2_with fail
        refine hT2.mono ?_
        rintro e w10 ⟨vo10, rfl, ⟨us10, hr10, t10, hR, hm10⟩⟩
        clear hT2
        obtain ⟨A10, c10, b10, hv10, -, -, -, s10, -⟩ := SlT.of_own hr10
        have hul : us10.length = nt := t10.1.trans HNT.out
        rw [hul] at hv10
        subst hv10
        replace hW := hW.mod hm10 (by decide) (by decide) (by decide) (by decide) (by decide) (by decide)
        replace s9 := hm10.slT s9 (by decide) (by decide)
        replace t9 := hm10.bssT t9 (by decide) (by decide)
        replace hB := Nat.le_trans hB hm10.bel.size
        replace hb := hb.trans (hm10.bel.mono hwB)
        have hLm : ∀ l ∈ atK (k : Int) gs, l.length ≤ maxLen := fun l hl => by
          obtain ⟨y, hy, rfl⟩ := List.mem_map.1 hl
          exact Nat.le_trans (HGT.out y (List.mem_filter.1 hy).1).2 (by simp [maxLen])
        have hSm := SameL_calls A9 A10 us9 us10 (atK k gs) (atK k gs) nt nt c9 c10 b9 b10 w10 s9.1 s10.1 t9.bss t10.bss HNT.out HNT.out (by have h1 := atK_le k gs; have h2 := HNT.out; have h3 := HGL.out; omega) hLm hLm
        simp only [decide_true] at hSm
        clear hr10 t10 t9 s9 s10 hm10 hul hLm
        go_wp2_with fail
        refine hSm.mono ?_
        rintro e w11 ⟨rfl, kd, e11⟩
        have hb11 : Below w10.heap.size w10 w11 := by rw [e11]; exact below_drewN (Below.refl _ _) kd
        clear hSm e11
        replace hW := hW.ext hb11
        replace hR := hR.ext hb11
        replace hB := Nat.le_trans hB hb11.size
        replace hb := hb.trans (hb11.mono hb.size)
        have hW1 := WWait_calls gW 0 gW (toK (k + 1) gs) w11 hW
        have hR1 := RWait_calls gW gR gs (k + 1) w11 hR (by have := HGL.out; omega)
        rw [toK_length] at hW1
        obtain ⟨N2, hN2⟩ : ∃ N2, N2 = (restK ((k : Int) + 1) gs).length := ⟨_, rfl⟩
        rw [← hN2] at hW1 hR1
        clear hb11 hN2
        go_wp2_with fail
        refine hW1.mono ?_
        rintro e w12 ⟨rfl, e12⟩
        subst e12
        clear hW1
        go_wp2_with fail
        refine hR1.mono ?_
        rintro e w13 ⟨rfl, hb13⟩
        clear hR1
        have HW := Lib.hid (hW.ext hb13)
        have HR := Lib.hid (hR.ext hb13)
        have HB := Lib.hid (Nat.le_trans hB hb13.size)
        have HBB := Lib.hid (hb.trans (hb13.mono hb.size))
        clear hb13 hW hR hB hb
        go_wp2_with fail
        go_roundw
        case rel => exact ⟨k + 1, gs, by omega, by omega, by go_num, HGL.out, HGT.out, by rw [show ((k + 1 : Nat) : Int) = (k : Int) + 1 by omega]; exact HW.out, by rw [show ((k + 1 : Nat) : Int) = (k : Int) + 1 by omega]; exact HR.out, HB.out, HBB.out⟩
        case measure => simp [intOf]; omega
    · obtain rfl : k = n := by omega
      go_wp2_with fail
      go_ret
      exact ⟨rfl, hb⟩
end Go.Proofs.Ytbcfelihncnofaa
