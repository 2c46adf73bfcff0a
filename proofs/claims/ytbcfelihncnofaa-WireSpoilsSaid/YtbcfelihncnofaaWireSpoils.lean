/- WireSpoils: what is spoilt has some of 32 bits in a row turned, and nothing else; twice it is what it was. No condition. -/
import Derived.Test.YtbcfelihncnofaaWiO
import Derived.Test.YtbcfelihncnofaaWiW
namespace Go.Proofs.Ytbcfelihncnofaa
open Go.RowKit
set_option linter.unusedVariables false

set_option maxHeartbeats 8000000 in
set_option maxRecDepth 20000 in
theorem WireSpoils_walk (A : Option Addr) (l : List UInt8) (n c b : Nat) (f : Ft) (w : World) (hs : Bs w b A l) (hn : l.length = n) (hnm : n ≤ maxLen) (hf : f.ok) :
    Calls Try.prog 4 #[.slice A n c, .agg f.cells.toArray] w fun e w' => e = .returned (.bool true) ∧ Below w.heap.size w w' := by
  have hb := below_alloc1 w (.cells f.cells.toArray 50)
  have hz := heap_alloc_new w (.cells f.cells.toArray 50)
  replace hs := Sl.ext hs hb
  have HN := Lib.hid hn
  obtain ⟨g, hg⟩ : ∃ g, g = w.heap.size := ⟨_, rfl⟩
  obtain ⟨w1, hw1⟩ : ∃ w1, w1 = w.alloc (.cells f.cells.toArray 50) := ⟨_, rfl⟩
  rw [← hw1] at hb hz hs
  rw [← hg] at hz
  clear hn
  go_enter Try.func4, Try.ntmps4
  go_wp2_with fail
  rw [← hw1, ← hg]
  clear hw1
  refine (awake_calls _).mono ?_
  rintro e w2 ⟨rfl, hb2⟩
  replace hs := Sl.ext hs hb2
  replace hz := (hb2.block g (Array.getElem?_eq_some_iff.1 hz).1).trans hz
  replace hb := hb.trans (hb2.mono hb.size)
  clear hb2 hg
  go_wp2_with fail
  refine (Cut_calls A l n c b 60 _ hs HN.out hnm (by simp only [List.length_take]; omega)).mono ?_
  rintro e w3 ⟨v3, rfl, hrow3, hb3⟩
  obtain ⟨p, hp⟩ : ∃ p, p = l.take (60 : Int).toNat := ⟨_, rfl⟩
  have hpl : p.length ≤ 60 := by rw [hp]; simp only [List.length_take]; omega
  rw [← hp] at hrow3
  obtain ⟨A3, c3, b3, rfl, -, -, -, -, hs3, -⟩ := hrow3.sl
  replace hz := (hb3.block g (Array.getElem?_eq_some_iff.1 hz).1).trans hz
  replace hb := hb.trans (hb3.mono hb.size)
  clear hb3 hs hp hrow3
  have lv0 : w3.cell? ⟨g, 0, none⟩ = some (.int .u8 (f.how : Int)) := by rw [cell_of_row w3 _ _ _ _ _ hz]; rfl
  have lv1 : w3.cell? ⟨g, 1, none⟩ = some (.int .u16 (f.pos : Int)) := by rw [cell_of_row w3 _ _ _ _ _ hz]; rfl
  have lv2 : w3.cell? ⟨g, 2, none⟩ = some (.int .u32 (f.mask : Int)) := by rw [cell_of_row w3 _ _ _ _ _ hz]; rfl
  obtain ⟨pn, hpn⟩ : ∃ pn, p.length = pn := ⟨_, rfl⟩
  rw [hpn] at hpl ⊢
  have hSp := fun (A : Option Addr) (x : List UInt8) (m c b : Nat) W hs hl hm => Spoil_calls A x m c b f.how f.pos f.mask W hs hl hm hf.2.1 hf.2.2
  have hRS := fun W hs => RSpoil_calls A3 p pn c3 b3 f W hs hpn (by omega) hf
  have hSp1 := hSp A3 p pn c3 b3 w3 hs3 hpn (by omega)
  go_wp2_with fail
  refine hSp1.mono ?_
  rintro e w4 ⟨v4, rfl, hrow4, hb4⟩
  clear lv0 lv1 lv2 hSp1
  obtain ⟨q, hq⟩ : ∃ q, q = spoilN p f.pos f.mask := ⟨_, rfl⟩
  have hqn : q.length = pn := by rw [hq, spoilN_length]; exact hpn
  have htw : spoilN q f.pos f.mask = p := by rw [hq]; exact spoil_twice p f.pos f.mask
  rw [← hq] at hrow4 hRS
  obtain ⟨A4, c4, b4, rfl, -, -, -, -, hs4, -⟩ := hrow4.sl
  rw [hqn]
  replace hs3 := Sl.ext hs3 hb4
  replace hz := (hb4.block g (Array.getElem?_eq_some_iff.1 hz).1).trans hz
  replace hb := hb.trans (hb4.mono hb.size)
  have hS1 := fun (A' : Option Addr) (c' b' : Nat) W h1 h2 => Same_calls A4 A' q q pn pn c4 c' b4 b' W h1 h2 hqn hqn (by simp only [maxLen]; omega) (by simp only [maxLen]; omega)
  have hS2 := fun (A' : Option Addr) (c' b' : Nat) W h1 h2 => Same_calls A' A3 p p pn pn c' c3 b' b3 W h1 h2 hpn hpn (by simp only [maxLen]; omega) (by simp only [maxLen]; omega)
  simp only [decide_true] at hS1 hS2
  have hSp2 := fun W h => hSp A4 q pn c4 b4 W h hqn (by omega)
  rw [htw] at hSp2
  obtain ⟨RB, hRB⟩ : ∃ RB, RB = decide ((f.how : Int) ≤ 5) := ⟨_, rfl⟩
  have hRi := fun W => Right_calls f W
  rw [← hRB] at hRi
  have hRB1 : decide ((f.how : Int) < 6) = RB := by rw [hRB, decide_eq_decide]; omega
  have hRB2 : decide (f.how < 6) = RB := by rw [hRB, decide_eq_decide]; omega
  have HQ := Lib.hid hq
  have HQN := Lib.hid hqn
  have HPN := Lib.hid hpn
  have HSP := Lib.hid hSp
  have hwB : w.heap.size ≤ w4.heap.size := hb.size
  clear hrow4 hb4 hq hqn hpn htw hRB hSp
  go_wp2_with fail
  refine wp_region_E (fun j => false) (fun w9 => w9.heap[g]? = some (.cells f.cells.toArray 50 (0, 0))) (by kernel_rfl) ?_ (fun hHeld => ?_)
  · exact (by exact hz)
  obtain ⟨wd20', hwd⟩ : ∃ wd20', wd20' = World.drew w4 := ⟨_, rfl⟩
  have h9 : Below w4.heap.size w4 wd20' := by rw [hwd]; exact below_drew (Below.refl _ _)
  rw [← hwd] at hHeld ⊢
  clear hwd
  replace hz := (h9.block g (Array.getElem?_eq_some_iff.1 hz).1).trans hz
  replace hs3 := Sl.ext hs3 h9
  replace hs4 := Sl.ext hs4 h9
  replace hb := hb.trans (h9.mono hb.size)
  clear h9
  refine wpAnyE_take (i := 0) (by simp only [List.getElem?_toArray]; rfl) (by kernel_rfl) (by kernel_rfl) (by kernel_rfl) (by kernel_rfl) (by kernel_rfl) (by exact fun _ _ _ h => h) (by exact yk (.slice A4 pn c4) (by kernel_rfl) (fun _ => by kernel_rfl)) hHeld ?_
  try simp only [Act.put, List.setIfInBounds_toArray, List.set_cons_zero, List.set_cons_succ]
  refine wpAnyE_take (i := 1) (by simp only [List.getElem?_toArray]; rfl) (by kernel_rfl) (by kernel_rfl) (by kernel_rfl) (by kernel_rfl) (by kernel_rfl) (by exact fun _ _ _ h => h) (by exact yk (.slice A3 pn c3) (by kernel_rfl) (fun _ => by kernel_rfl)) hHeld ?_
  try simp only [Act.put, List.setIfInBounds_toArray, List.set_cons_zero, List.set_cons_succ]
  refine wpAnyE_take (i := 2) (by simp only [List.getElem?_toArray]; rfl) (by kernel_rfl) (by kernel_rfl) (by kernel_rfl) (by kernel_rfl) (by kernel_rfl) (by exact fun _ _ _ h => h) (by exact yk_lvA (by kernel_rfl) (.tmp 3) rfl g f (by kernel_rfl) (fun w hh => hh)) hHeld ?_
  try simp only [Act.put, List.setIfInBounds_toArray, List.set_cons_zero, List.set_cons_succ]
  refine wpAnyE_ready (rs := [3]) (by kernel_rfl) (by simp) ?_
  refine EachE.cons (by rfl) (by simp only [List.getElem?_toArray]; rfl) (fun KK hKK => ?_) EachE.nil
  rw [if_pos (by kernel_rfl)]
  refine wp_callF 21 #[.slice A3 pn c3, .agg f.cells.toArray] (by kernel_rfl) ?_
  refine (hRS _ hs3).mono ?_
  rintro e w21' ⟨v9, rfl, hrow9, h9⟩
  obtain ⟨A5, c5, b5, rfl, -, -, -, -, hs5', -⟩ := hrow9.sl
  rw [HQN.out]
  refine ⟨_, rfl, ?_⟩
  replace hz := (h9.block g (Array.getElem?_eq_some_iff.1 hz).1).trans hz
  replace hs3 := Sl.ext hs3 h9
  replace hs4 := Sl.ext hs4 h9
  replace hb := hb.trans (h9.mono hb.size)
  clear h9
  have hs5 := hs5'
  clear hrow9 hs5'
  refine hKK.out _ _ ?_ (fun hHeld => ?_)
  · exact (by exact hz)
  clear hKK KK
  try simp only [Act.put, List.setIfInBounds_toArray, List.set_cons_zero, List.set_cons_succ]
  refine wpAnyE_ready (rs := [4]) (by kernel_rfl) (by simp) ?_
  refine EachE.cons (by rfl) (by simp only [List.getElem?_toArray]; rfl) (fun KK hKK => ?_) EachE.nil
  rw [if_pos (by kernel_rfl)]
  refine wp_callF 20 #[.slice A4 pn c4, .slice A5 pn c5] (by kernel_rfl) ?_
  refine (hS1 A5 c5 b5 _ hs4 hs5).mono ?_
  rintro e w22' ⟨rfl, kd23', e9⟩
  have h9 : Below w21'.heap.size w21' w22' := by rw [e9]; exact below_drewN (Below.refl _ _) _
  clear e9
  refine ⟨_, rfl, ?_⟩
  clear hs5
  replace hz := (h9.block g (Array.getElem?_eq_some_iff.1 hz).1).trans hz
  replace hs3 := Sl.ext hs3 h9
  replace hs4 := Sl.ext hs4 h9
  replace hb := hb.trans (h9.mono hb.size)
  clear h9
  refine hKK.out _ _ ?_ (fun hHeld => ?_)
  · exact (by exact hz)
  clear hKK KK
  try simp only [Act.put, List.setIfInBounds_toArray, List.set_cons_zero, List.set_cons_succ]
  refine wpAnyE_take (i := 5) (by simp only [List.getElem?_toArray]; rfl) (by kernel_rfl) (by kernel_rfl) (by kernel_rfl) (by kernel_rfl) (by kernel_rfl) (by exact fun _ _ _ h => h) (by exact yk (.bool false) (by kernel_rfl) (fun _ => by kernel_rfl)) hHeld ?_
  try simp only [Act.put, List.setIfInBounds_toArray, List.set_cons_zero, List.set_cons_succ]
  refine wpAnyE_take (i := 6) (by simp only [List.getElem?_toArray]; rfl) (by kernel_rfl) (by kernel_rfl) (by kernel_rfl) (by kernel_rfl) (by kernel_rfl) (by exact fun _ _ _ h => h) (by exact yk (.bool false) (by kernel_rfl) (fun _ => by kernel_rfl)) hHeld ?_
  try simp only [Act.put, List.setIfInBounds_toArray, List.set_cons_zero, List.set_cons_succ]
  refine wpAnyE_take (i := 7) (by simp only [List.getElem?_toArray]; rfl) (by kernel_rfl) (by kernel_rfl) (by kernel_rfl) (by kernel_rfl) (by kernel_rfl) (by exact fun _ _ _ h => h) (by exact yk (.slice A4 pn c4) (by kernel_rfl) (fun _ => by kernel_rfl)) hHeld ?_
  try simp only [Act.put, List.setIfInBounds_toArray, List.set_cons_zero, List.set_cons_succ]
  refine wpAnyE_take (i := 8) (by simp only [List.getElem?_toArray]; rfl) (by kernel_rfl) (by kernel_rfl) (by kernel_rfl) (by kernel_rfl) (by kernel_rfl) (by exact fun _ _ _ h => h) (by exact yk_lvA (by kernel_rfl) (.tmp 3) rfl g f (by kernel_rfl) (fun w hh => hh)) hHeld ?_
  try simp only [Act.put, List.setIfInBounds_toArray, List.set_cons_zero, List.set_cons_succ]
  refine wpAnyE_take (i := 10) (by simp only [List.getElem?_toArray]; rfl) (by kernel_rfl) (by kernel_rfl) (by kernel_rfl) (by kernel_rfl) (by kernel_rfl) (by exact fun _ _ _ h => h) (by exact yk (.slice A3 pn c3) (by kernel_rfl) (fun _ => by kernel_rfl)) hHeld ?_
  try simp only [Act.put, List.setIfInBounds_toArray, List.set_cons_zero, List.set_cons_succ]
  refine wpAnyE_ready (rs := [9]) (by kernel_rfl) (by simp) ?_
  refine EachE.cons (by rfl) (by simp only [List.getElem?_toArray]; rfl) (fun KK hKK => ?_) EachE.nil
  rw [if_pos (by kernel_rfl)]
  refine wp_callF 19 #[.slice A4 pn c4, .agg f.cells.toArray] (by kernel_rfl) ?_
  refine (hSp2 _ hs4).mono ?_
  rintro e w24' ⟨v9, rfl, hrow9, h9⟩
  obtain ⟨A6, c6, b6, rfl, -, -, -, -, hs6', -⟩ := hrow9.sl
  rw [HPN.out]
  refine ⟨_, rfl, ?_⟩
  replace hz := (h9.block g (Array.getElem?_eq_some_iff.1 hz).1).trans hz
  replace hs3 := Sl.ext hs3 h9
  replace hs4 := Sl.ext hs4 h9
  replace hb := hb.trans (h9.mono hb.size)
  clear h9
  have hs6 := hs6'
  clear hrow9 hs6'
  refine hKK.out _ _ ?_ (fun hHeld => ?_)
  · exact (by exact hz)
  clear hKK KK
  try simp only [Act.put, List.setIfInBounds_toArray, List.set_cons_zero, List.set_cons_succ]
  refine wpAnyE_ready (rs := [11]) (by kernel_rfl) (by simp) ?_
  refine EachE.cons (by rfl) (by simp only [List.getElem?_toArray]; rfl) (fun KK hKK => ?_) EachE.nil
  rw [if_pos (by kernel_rfl)]
  refine wp_callF 20 #[.slice A6 pn c6, .slice A3 pn c3] (by kernel_rfl) ?_
  refine (hS2 A6 c6 b6 _ hs6 hs3).mono ?_
  rintro e w25' ⟨rfl, kd26', e9⟩
  have h9 : Below w24'.heap.size w24' w25' := by rw [e9]; exact below_drewN (Below.refl _ _) _
  clear e9
  refine ⟨_, rfl, ?_⟩
  clear hs6
  replace hz := (h9.block g (Array.getElem?_eq_some_iff.1 hz).1).trans hz
  replace hs3 := Sl.ext hs3 h9
  replace hs4 := Sl.ext hs4 h9
  replace hb := hb.trans (h9.mono hb.size)
  clear h9
  refine hKK.out _ _ ?_ (fun hHeld => ?_)
  · exact (by exact hz)
  clear hKK KK
  try simp only [Act.put, List.setIfInBounds_toArray, List.set_cons_zero, List.set_cons_succ]
  refine wpAnyE_take (i := 12) (by simp only [List.getElem?_toArray]; rfl) (by kernel_rfl) (by kernel_rfl) (by kernel_rfl) (by kernel_rfl) (by kernel_rfl) (by exact fun _ _ _ h => h) (by exact yk (.bool false) (by kernel_rfl) (fun _ => by kernel_rfl)) hHeld ?_
  try simp only [Act.put, List.setIfInBounds_toArray, List.set_cons_zero, List.set_cons_succ]
  refine wpAnyE_take (i := 13) (by simp only [List.getElem?_toArray]; rfl) (by kernel_rfl) (by kernel_rfl) (by kernel_rfl) (by kernel_rfl) (by kernel_rfl) (by exact fun _ _ _ h => h) (by exact yk (.bool false) (by kernel_rfl) (fun _ => by kernel_rfl)) hHeld ?_
  try simp only [Act.put, List.setIfInBounds_toArray, List.set_cons_zero, List.set_cons_succ]
  refine wpAnyE_take (i := 14) (by simp only [List.getElem?_toArray]; rfl) (by kernel_rfl) (by kernel_rfl) (by kernel_rfl) (by kernel_rfl) (by kernel_rfl) (by exact fun _ _ _ h => h) (by exact yk (.bool false) (by kernel_rfl) (fun _ => by kernel_rfl)) hHeld ?_
  try simp only [Act.put, List.setIfInBounds_toArray, List.set_cons_zero, List.set_cons_succ]
  refine wpAnyE_take (i := 15) (by simp only [List.getElem?_toArray]; rfl) (by kernel_rfl) (by kernel_rfl) (by kernel_rfl) (by kernel_rfl) (by kernel_rfl) (by exact fun _ _ _ h => h) (by exact yk_lvA (by kernel_rfl) (.tmp 3) rfl g f (by kernel_rfl) (fun w hh => hh)) hHeld ?_
  try simp only [Act.put, List.setIfInBounds_toArray, List.set_cons_zero, List.set_cons_succ]
  refine wpAnyE_take (i := 17) (by simp only [List.getElem?_toArray]; rfl) (by kernel_rfl) (by kernel_rfl) (by kernel_rfl) (by kernel_rfl) (by kernel_rfl) (by exact fun _ _ _ h => h) (by exact yk (.pointer (some ⟨g, 0, none⟩)) (by kernel_rfl) (fun _ => by kernel_rfl)) hHeld ?_
  try simp only [Act.put, List.setIfInBounds_toArray, List.set_cons_zero, List.set_cons_succ]
  refine wpAnyE_take (i := 18) (by simp only [List.getElem?_toArray]; rfl) (by kernel_rfl) (by kernel_rfl) (by kernel_rfl) (by kernel_rfl) (by kernel_rfl) (by exact fun _ _ _ h => h) (by exact yk_ld8 (by kernel_rfl) (.tmp 32) rfl ⟨g, 0, none⟩ (f.how : Int) (by kernel_rfl) (fun w hh => by rw [cell_of_row w _ _ _ _ _ hh]; rfl)) hHeld ?_
  try simp only [Act.put, List.setIfInBounds_toArray, List.set_cons_zero, List.set_cons_succ]
  refine wpAnyE_take (i := 19) (v := .bool RB) (by simp only [List.getElem?_toArray]; rfl) (by kernel_rfl) (by kernel_rfl) (by kernel_rfl) (by kernel_rfl) (by kernel_rfl) (by exact fun _ _ _ h => h) (.inl ⟨by kernel_rfl, fun ww hSw => by clear hSw; go_simp⟩) hHeld ?_
  try simp only [Act.put, List.setIfInBounds_toArray, List.set_cons_zero, List.set_cons_succ]
  refine wpAnyE_ready (rs := [16]) (by kernel_rfl) (by simp) ?_
  refine EachE.cons (by rfl) (by simp only [List.getElem?_toArray]; rfl) (fun KK hKK => ?_) EachE.nil
  rw [if_pos (by kernel_rfl)]
  refine wp_callF 22 #[.agg f.cells.toArray] (by kernel_rfl) ?_
  refine (hRi _).mono ?_
  rintro e w27' ⟨rfl, h9⟩
  refine ⟨_, rfl, ?_⟩
  replace hz := (h9.block g (Array.getElem?_eq_some_iff.1 hz).1).trans hz
  replace hs3 := Sl.ext hs3 h9
  replace hs4 := Sl.ext hs4 h9
  replace hb := hb.trans (h9.mono hb.size)
  clear h9
  refine hKK.out _ _ ?_ (fun hHeld => ?_)
  · exact (by exact hz)
  clear hKK KK
  try simp only [Act.put, List.setIfInBounds_toArray, List.set_cons_zero, List.set_cons_succ]
  refine wpAnyE_take (i := 20) (v := .bool false) (by simp only [List.getElem?_toArray]; rfl) (by kernel_rfl) (by kernel_rfl) (by kernel_rfl) (by kernel_rfl) (by kernel_rfl) (by exact fun _ _ _ h => h) (.inl ⟨by kernel_rfl, fun ww hSw => by clear hSw; go_simp⟩) hHeld ?_
  try simp only [Act.put, List.setIfInBounds_toArray, List.set_cons_zero, List.set_cons_succ]
  refine wpAnyE_take (i := 21) (by simp only [List.getElem?_toArray]; rfl) (by kernel_rfl) (by kernel_rfl) (by kernel_rfl) (by kernel_rfl) (by kernel_rfl) (by exact fun _ _ _ h => h) (by exact yk (.bool false) (by kernel_rfl) (fun _ => by kernel_rfl)) hHeld ?_
  try simp only [Act.put, List.setIfInBounds_toArray, List.set_cons_zero, List.set_cons_succ]
  refine wpAnyE_done (by kernel_rfl) ?_ _
  clear hRi hRB1 hRB2 hRS hS1 hS2 hSp2
  by_cases h0 : pn = 0
  · subst h0
    clear hs3 hs4 hz
    go_wp2_with fail
    go_ret
    exact ⟨rfl, hb⟩
  · have hne : ((pn : Int) == 0) = false := by simp; omega
    have hSeal := RefSeal_calls A3 p pn c3 b3 w27' hs3 HPN.out (by omega)
    have HZ := Lib.hid hz
    have HB := Lib.hid hb
    clear hs3 hs4 hz hb
    try simp only [Act.put, List.setIfInBounds_toArray, List.set_cons_zero, List.set_cons_succ]
    go_wp2_with fail
    refine hSeal.mono ?_
    rintro e w7 ⟨v7, rfl, hrow7, hb7⟩
    obtain ⟨A7, c7, b7, rfl, hc7, -, -, -, hs7, -⟩ := hrow7.sl
    rw [sealedL_length, HPN.out] at hc7 ⊢
    have hz7 := (hb7.block g (Array.getElem?_eq_some_iff.1 HZ.out).1).trans HZ.out
    have hb8 := HB.out.trans (hb7.mono HB.out.size)
    have lv0 : w7.cell? ⟨g, 0, none⟩ = some (.int .u8 (f.how : Int)) := by rw [cell_of_row w7 _ _ _ _ _ hz7]; rfl
    have lv1 : w7.cell? ⟨g, 1, none⟩ = some (.int .u16 (f.pos : Int)) := by rw [cell_of_row w7 _ _ _ _ _ hz7]; rfl
    have lv2 : w7.cell? ⟨g, 2, none⟩ = some (.int .u32 (f.mask : Int)) := by rw [cell_of_row w7 _ _ _ _ _ hz7]; rfl
    have hsl : (sealedL p).length = pn + 4 := by rw [sealedL_length, HPN.out]
    have hSp3 := HSP.out A7 (sealedL p) (pn + 4) c7 b7 w7 hs7 hsl (by omega)
    clear hrow7 hb7 hSeal
    go_wp2_with fail
    refine hSp3.mono ?_
    rintro e w8 ⟨v8, rfl, hrow8, hb9⟩
    clear lv0 lv1 lv2 hSp3
    obtain ⟨m, hm⟩ : ∃ m, m = spoilN (sealedL p) f.pos f.mask := ⟨_, rfl⟩
    have hml : m.length = pn + 4 := by rw [hm, spoilN_length, hsl]
    have hop : opensB m pn = decide (m = sealedL p) := by
      rw [hm, ← HPN.out]
      unfold spoilN
      rw [sealedL_length]
      exact opens_spoilt (Nat.le_of_lt (Nat.mod_lt _ (by omega))) (by have := hf.2.2; omega)
    rw [← hm] at hrow8
    obtain ⟨A8, c8, b8, rfl, hc8, -, -, -, hs8, -⟩ := hrow8.sl
    rw [hml] at hc8 ⊢
    have hb10 := hb8.trans (hb9.mono hb8.size)
    have hs7' := Sl.ext hs7 hb9
    have hSm := Same_calls A7 A8 (sealedL p) m (pn + 4) (pn + 4) c7 c8 b7 b8 w8 hs7' hs8 hsl hml (by simp only [maxLen]; omega) (by simp only [maxLen]; omega)
    have hOp := fun W h => RefOpen_long A8 m pn c8 b8 W h hml hc8 (by omega)
    obtain ⟨o, ho⟩ : ∃ o, o = opensB m pn := ⟨_, rfl⟩
    have hso : decide (sealedL p = m) = o := by rw [ho, hop, decide_eq_decide]; exact ⟨fun h => h.symm, fun h => h.symm⟩
    rw [hso] at hSm
    rw [← ho] at hOp
    clear hm hrow8 hb9 hop ho hso hs7
    cases o
    · go_wp2_with fail
      refine hSm.mono ?_
      rintro e w9 ⟨rfl, kd, rfl⟩
      have hOp1 := hOp (w8.drewN kd) (Sl.drewN hs8 kd)
      clear hOp hSm
      go_wp2_with fail
      refine hOp1.mono ?_
      rintro e w10 ⟨rfl, ke, rfl⟩
      go_wp2_with fail
      go_ret
      exact ⟨rfl, below_drewN hb10 (kd + ke)⟩
    · go_wp2_with fail
      refine hSm.mono ?_
      rintro e w9 ⟨rfl, kd, rfl⟩
      go_wp2_with fail
      go_ret
      exact ⟨rfl, below_drewN hb10 kd⟩
end Go.Proofs.Ytbcfelihncnofaa
