/- ClipLong: the walk. Conditions: the numbers fit. -/
import Derived.Test.YtlheoepmhpmfaaaClipG
import Derived.Test.YtlheoepmhpmfaaaRefCut
namespace Go.Proofs.Ytlheoepmhpmfaaa
open Go.RowKit

/-- What the basket is when so many full pieces have been put, the first one First. -/
def longK (i : Nat) : Bk := if i ≤ 16 then ⟨List.replicate (64 * i) 0, false⟩ else ⟨[], true⟩
theorem longK_len (i : Nat) : (longK i).held.length ≤ 1024 := by unfold longK; split <;> simp <;> omega
theorem long_put (i : Nat) : putB (longK i) ⟨decide (i = 0), false, List.replicate 64 0⟩ = (longK (i + 1), [], false, if i = 16 then 4 else 0) := by
  by_cases h16 : i < 16
  · have h1 : longK i = ⟨List.replicate (64 * i) 0, false⟩ := by unfold longK; rw [if_pos (by omega)]
    have h2 : longK (i + 1) = ⟨List.replicate (64 * (i + 1)) 0, false⟩ := by unfold longK; rw [if_pos (by omega)]
    rw [h1, h2, if_neg (by omega)]
    have hr : refuseN ⟨List.replicate (64 * i) 0, false⟩ ⟨decide (i = 0), false, List.replicate 64 0⟩ = 0 := by
      unfold refuseN
      simp only [List.length_replicate]
      rw [if_neg (by by_cases h : i = 0 <;> simp [h]), if_neg (by omega), if_neg (by omega), if_neg (by omega)]
    rw [putB_more (by simp) hr rfl]
    simp only [List.replicate_append_replicate]
    rw [show 64 * i + 64 = 64 * (i + 1) by omega]
  · by_cases h17 : i = 16
    · subst h17
      kernel_rfl
    · have h1 : longK i = ⟨[], true⟩ := by unfold longK; rw [if_neg (by omega)]
      have h2 : longK (i + 1) = ⟨[], true⟩ := by unfold longK; rw [if_neg (by omega)]
      rw [h1, h2, if_neg h17, putB_left ⟨rfl, by simp; omega⟩]
theorem long_next (p : List UInt8) : putB ⟨[], true⟩ ⟨false, true, p⟩ = (⟨[], true⟩, [], false, 0) := putB_left ⟨rfl, rfl⟩
theorem long_last (p : List UInt8) (lv : Bool) (h : p.length ≤ 64) : putB ⟨[], lv⟩ ⟨true, true, p⟩ = (⟨[], false⟩, p, true, 0) := by
  have hr : refuseN ⟨[], lv⟩ ⟨true, true, p⟩ = 0 := by
    unfold refuseN
    rw [if_neg (by simp), if_neg (by simp; omega), if_neg (by simp), if_neg (by simp; omega)]
  rw [putB_last (by simp) hr rfl]
  rfl

set_option maxHeartbeats 4000000 in
set_option maxRecDepth 20000 in
theorem ClipLong_walk (n : Nat) (A : Option Addr) (l : List UInt8) (m c b : Nat) (w : World) (hn : n ≤ 255) (hs : Bs w b A l) (hl : l.length = m) (hm : m ≤ maxLen) :
    Calls Try.prog 5 #[.int .u8 (n : Int), .slice A m c] w fun e w' => e = .returned (.bool true) ∧ Below w.heap.size w w' := by
  obtain ⟨r, hr⟩ : ∃ r, r = n % 10 := ⟨_, rfl⟩
  have e1 : (n : Int).tmod 10 = (r : Int) := by rw [hr, Int.tmod_eq_emod_of_nonneg (by omega)]; omega
  have e2 : IntKind.u8.wrap (r : Int) = (r : Int) := IntWalk.u8_in _ (by omega)
  have e3 : IntKind.i64.wrap (r : Int) = (r : Int) := IntWalk.i64_in _ (by omega)
  have e4 : IntKind.i64.wrap (17 + (r : Int)) = 17 + (r : Int) := IntWalk.i64_in _ (by omega)
  have hr2 : r ≤ 9 := by omega
  clear hr
  obtain ⟨q, hq⟩ : ∃ q, q = l.take 60 := ⟨_, rfl⟩
  have hql : q.length ≤ 60 := by rw [hq]; simp; omega
  have hcut := fun (W : World) (h : Bs W b A l) => Cut_calls A l m c b 60 W h hl hm (by simp; omega)
  rw [show (60 : Int).toNat = 60 from rfl, ← hq] at hcut
  clear hq
  have hmk : ∀ w : World, (Instr.makeSlice 25 (.int .i64 64) (.int .i64 64)).run Try.prog w = .ok (.slice (some ⟨w.heap.size, 0, none⟩) 64 64) (w.alloc (.cells (bv (List.replicate 64 0)).toArray 5)) := fun _ => by kernel_rfl
  go_enter Try.func5, Try.ntmps5
  go_wp2_with fail
  refine (Awake_calls _).mono ?_
  rintro e w1 ⟨rfl, h1⟩
  go_wp2_with fail
  refine (hcut _ (Sl.ext hs h1)).mono ?_
  rintro e w2 ⟨vq, rfl, hrq, h2⟩
  obtain ⟨Aq, cq, bq, rfl, -, -, -, -, hsq, -⟩ := hrq.sl
  obtain ⟨mq, hmq⟩ : ∃ mq, mq = q.length := ⟨_, rfl⟩
  rw [← hmq] at hql ⊢
  have HMQ := Lib.hid hmq
  have hb2 := h1.trans (h2.mono h1.size)
  clear hcut hrq hmq h1 h2 hs hl hm
  have q0 : BoxK (w2.alloc (.cells #[.slice none 0 0, .bool false] 34)) w2.heap.size (.slice none 0 0) false := heap_alloc_new w2 _
  have hba := below_alloc1 w2 (.cells #[.slice none 0 0, .bool false] 34)
  replace hmk := hmk (w2.alloc (.cells #[.slice none 0 0, .bool false] 34))
  have hs64 : Bs ((w2.alloc (.cells #[.slice none 0 0, .bool false] 34)).alloc (.cells (bv (List.replicate 64 0)).toArray 5)) (w2.alloc (.cells #[.slice none 0 0, .bool false] 34)).heap.size (some ⟨(w2.alloc (.cells #[.slice none 0 0, .bool false] 34)).heap.size, 0, none⟩) (List.replicate 64 0) := Sl.cells_new _ _ _
  have hbc := below_alloc1 (w2.alloc (.cells #[.slice none 0 0, .bool false] 34)) (.cells (bv (List.replicate 64 0)).toArray 5)
  simp only [World.size_alloc] at hmk hs64 hbc
  obtain ⟨w3, hw3⟩ : ∃ w3, w3 = (w2.alloc (.cells #[.slice none 0 0, .bool false] 34)).alloc (.cells (bv (List.replicate 64 0)).toArray 5) := ⟨_, rfl⟩
  rw [← hw3] at hmk hs64 hbc
  have q3 := q0.ext (by rw [World.size_alloc]; exact hbc)
  have hb3 := hb2.trans ((hba.trans (hbc.mono (by simp))).mono hb2.size)
  have hs3 := Sl.ext hsq (hba.trans (hbc.mono (by simp)))
  have hg1 := q3.lt
  have hg2 := hb2.size
  have hsz3 : w3.heap.size = w2.heap.size + 1 + 1 := by rw [hw3]; simp
  have HSZ := Lib.hid hsz3
  have hbq : q ≠ [] → bq < w2.heap.size := fun h => Bs.lt hsq h
  have HBQ := Lib.hid hbq
  clear hw3 q0 hba hbc hsq hsz3 hbq
  obtain ⟨d64, hd64⟩ : ∃ d, d = List.replicate 64 (0 : UInt8) := ⟨_, rfl⟩
  have hlp := long_put
  rw [← hd64] at hs64 hlp
  have hdl : d64.length = 64 := by rw [hd64]; simp
  have HDL := Lib.hid hdl
  clear hd64 hdl
  go_wp2_with fail
  obtain ⟨g, hg⟩ : ∃ g, g = w2.heap.size := ⟨_, rfl⟩
  rw [← hg] at hs64 q3 hg1 hg2 ⊢
  have HG := Lib.hid hg
  clear hg hmk
  go_loopw [27] (fun i wr => ∃ (k : Nat) (v : Value), k ≤ 17 + r ∧ i = .int .i64 k ∧ Hid (KIn wr w3.heap.size g v (longK k)) ∧ Mod (fun i => i = g ∨ w3.heap.size ≤ i) w3 wr) (fun i _ => 17 + r - (intOf i).toNat)
  case atStart => exact ⟨0, _, Nat.zero_le _, rfl, Lib.hid ⟨q3, Row.nil_ _ _, fun _ => rfl⟩, Mod.refl _ _⟩
  case round =>
    obtain ⟨k, v, hk, rfl, hKx, hmx⟩ := hrel
    have hsx := hmx.size
    have hvl := Lib.hid hKx.out.row.lt
    by_cases hltk : k < 17 + r
    · have xd := Bs.modne hs64 hmx (fun hne h => by have := HSZ.out; have := HG.out; omega)
      obtain ⟨f, hf⟩ : ∃ f, f = decide (k = 0) := ⟨_, rfl⟩
      have e26 : ((k : Int) == 0) = f := by rw [hf, Bool.eq_iff_iff]; simp
      have hPut := Put_calls w3.heap.size g v (longK k) ⟨f, false, d64⟩ (some ⟨g + 1, 0, none⟩) 64 (g + 1) wr hKx.out (longK_len k) xd (by rw [HDL.out]; simp [maxLen]) hsx
      rw [hf, hlp k, ← hf] at hPut
      simp only [HDL.out] at hPut
      clear hf xd
      by_cases h16 : k = 16
      · rw [if_pos h16] at hPut
        have e40 : ((k : Int) == 16) = true := by simp; omega
        have h17 : k + 1 ≤ 17 + r := by omega
        clear h16
        go_wp2_with fail
        refine hPut.mono ?_
        rintro e w5 ⟨v2, vo, rfl, hK5, -, hm5⟩
        have hm6 : Mod (fun i => i = g ∨ w3.heap.size ≤ i) w3 w5 := hmx.trans hm5 (fun i _ h => h) (fun i hi h => h.imp id (fun h => (hvl.out _ h).1))
        go_wp2_with fail
        exact ⟨⟨k + 1, v2, h17, by go_num, Lib.hid hK5, hm6⟩, by simp [intOf]; omega⟩
      · rw [if_neg h16] at hPut
        have e40 : ((k : Int) == 16) = false := by simp; omega
        go_wp2_with fail
        refine hPut.mono ?_
        rintro e w5 ⟨v2, vo, rfl, hK5, -, hm5⟩
        have hm6 : Mod (fun i => i = g ∨ w3.heap.size ≤ i) w3 w5 := hmx.trans hm5 (fun i _ h => h) (fun i hi h => h.imp id (fun h => (hvl.out _ h).1))
        go_wp2_with fail
        exact ⟨⟨k + 1, v2, by omega, by go_num, Lib.hid hK5, hm6⟩, by simp [intOf]; omega⟩
    · have hlk : longK k = ⟨[], true⟩ := by unfold longK; rw [if_neg (by omega)]
      have hK := hKx.out
      rw [hlk] at hK
      have sq := Bs.modne hs3 hmx (fun hne h => by have := HBQ.out hne; have := HSZ.out; have := HG.out; omega)
      have hP1 := Put_calls w3.heap.size g v ⟨[], true⟩ ⟨false, true, q⟩ Aq cq bq wr hK (by simp) sq (by simp only [maxLen]; have := HMQ.out; omega) hsx
      rw [long_next] at hP1
      simp only [← HMQ.out] at hP1
      go_wp2_with fail
      refine hP1.mono ?_
      rintro e w5 ⟨v2, vo, rfl, hK5, -, hm5⟩
      have hm6 : Mod (fun i => i = g ∨ w3.heap.size ≤ i) w3 w5 := hmx.trans hm5 (fun i _ h => h) (fun i hi h => h.imp id (fun h => (hvl.out _ h).1))
      have sq5 := Bs.modne hs3 hm6 (fun hne h => by have := HBQ.out hne; have := HSZ.out; have := HG.out; omega)
      have hP2 := Put_calls w3.heap.size g v2 ⟨[], true⟩ ⟨true, true, q⟩ Aq cq bq w5 hK5 (by simp) sq5 (by simp only [maxLen]; have := HMQ.out; omega) hm6.size
      rw [long_last q true (by have := HMQ.out; omega)] at hP2
      simp only [← HMQ.out] at hP2
      have hvl2 := Lib.hid hK5.row.lt
      clear hP1
      go_wp2_with fail
      refine hP2.mono ?_
      rintro e w6 ⟨v3, vo3, rfl, hK6, hr6, hm7⟩
      have hm8 : Mod (fun i => i = g ∨ w3.heap.size ≤ i) w3 w6 := hm6.trans hm7 (fun i _ h => h) (fun i hi h => h.imp id (fun h => (hvl2.out _ h).1))
      have sq6 := Bs.modne hs3 hm8 (fun hne h => by have := HBQ.out hne; have := HSZ.out; have := HG.out; omega)
      obtain ⟨Ao, co, bo, rfl, -, -, -, -, hso, -⟩ := hr6.sl
      rw [← HMQ.out]
      clear hP2
      go_wp2_with fail
      refine (Same_calls Ao Aq q q mq mq co cq bo bq _ hso sq6 HMQ.out.symm HMQ.out.symm (by simp only [maxLen]; omega) (by simp only [maxLen]; omega)).mono ?_
      rintro e w7 ⟨rfl, jj, rfl⟩
      rw [show decide (q = q) = true by simp]
      go_wp2_with fail
      go_ret
      exact ⟨rfl, below_drewN (hb3.trans (hm8.below (B := w.heap.size) (by have := hb3.size; omega) (fun i hi h => by have := hb3.size; have := HG.out; omega))) _⟩
end Go.Proofs.Ytlheoepmhpmfaaa
