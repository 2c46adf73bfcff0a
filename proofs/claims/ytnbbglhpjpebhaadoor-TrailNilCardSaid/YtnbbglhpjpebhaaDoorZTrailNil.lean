/- TrailNil: the walk. Conditions: the numbers fit; the table lies. -/
import Derived.Test.YtnbbglhpjpebhaaDoorZTrBase11
namespace Go.Proofs.YtnbbglhpjpebhaaDoor
open Go.RowKit
set_option linter.unusedVariables false

set_option maxHeartbeats 8000000 in
set_option maxRecDepth 20000 in
theorem TrailNil_walk (tk m s : Nat) (w : World) (hT : CTab w) (htk : tk ≤ 4294967295) (hm : m ≤ 4294967295) (hs : s ≤ 18446744073709551615) :
    Calls Tryd.prog 5 #[.int .u32 (tk : Int), .int .u32 (m : Int), .int .u64 (s : Int)] w fun e w' => e = .returned (.bool true) ∧ Below w.heap.size w w' := by
  have hA := awakeT_calls w hT
  clear hT
  go_enter Tryd.func5, Tryd.ntmps5
  go_wp2_with fail
  refine hA.mono ?_
  rintro e w1 ⟨rfl, hb⟩
  clear hA
  go_upto_region 5 with (first | ((with_reducible refine at_bd 40 14 _ ?_); refine wpList_bdDt rfl (.tmp 12) (.tmp 13) s tk rfl rfl rfl ?_) | ((with_reducible refine at_al 40 8 ?_); refine wpList_alS rfl rfl (some 8) rfl w1.heap.size rfl ?_) | ((with_reducible refine at_st 40 8 14 ?_); refine wpList_stS rfl (.tmp 8) (.tmp 14) rfl w1.heap.size ⟨[], s, tk⟩ rfl rfl zSt (BoxS.new_ _ _) ?_))
  rw [made_row]
  obtain ⟨v, hv⟩ : ∃ v : St, v = ⟨[], s, tk⟩ := ⟨_, rfl⟩
  have htv : v.tk = tk := by rw [hv]
  rw [← hv]
  clear hv
  have h1 := below_alloc1 w1 (.cells (stA v) 40)
  have hx := BoxS.new_ w1 v
  obtain ⟨Y, hY⟩ : ∃ Y, Y = w1.heap.size := ⟨_, rfl⟩
  obtain ⟨w2, hw2⟩ : ∃ w2, w2 = w1.alloc (.cells (stA v) 40) := ⟨_, rfl⟩
  rw [← hw2] at h1 hx ⊢
  rw [← hY] at hx ⊢
  replace hb := hb.trans (h1.mono hb.size)
  clear hw2 hY h1 htv
  have h48 : zSt.L.length ≤ 48 := by decide
  go_wp2_with ((with_reducible refine at_ld 40 8 ?_); refine wpList_ldS rfl (.tmp 8) rfl Y rfl hx ?_)
  refine (Reset_nil v _).mono ?_
  rintro e w3 ⟨rfl, h1⟩
  replace hx := hx.ext h1
  replace hb := hb.trans (h1.mono hb.size)
  clear h1
  go_wp2_with ((with_reducible refine at_ld 40 8 ?_); refine wpList_ldS rfl (.tmp 8) rfl Y rfl hx ?_)
  refine (Confirm_nil v _).mono ?_
  rintro e w4 ⟨rfl, h1⟩
  replace hb := hb.trans (h1.mono hb.size)
  clear h1 hx
  go_wp2_with fail
  refine (Add_nil tk m _).mono ?_
  rintro e w5 ⟨rfl, rfl⟩
  go_wp2_with fail
  refine (Known_nil _).mono ?_
  rintro e w6 ⟨rfl, h1⟩
  replace hb := hb.trans (h1.mono hb.size)
  clear h1
  go_wp2_with (first | ((with_reducible refine at_bd 40 32 _ ?_); refine wpList_bdS0w (by first | rfl | simp [Region.wanted, yielded]) rfl ?_) | ((with_reducible refine at_bi 33 _ _ _ _ _ ?_); refine wpList_eqS (by first | rfl | simp [Region.wanted, yielded]) (.tmp 31) (.tmp 32) rfl zSt zSt rfl rfl h48 true (eqS_self _) ?_))
  refine (Shown_nil tk _).mono ?_
  rintro e w7 ⟨rfl, h1⟩
  replace hb := hb.trans (h1.mono hb.size)
  clear h1
  go_wp2_with (first | ((with_reducible refine at_bd 40 39 _ ?_); refine wpList_bdS0w (by first | rfl | simp [Region.wanted, yielded]) rfl ?_) | ((with_reducible refine at_bi 40 _ _ _ _ _ ?_); refine wpList_eqS (by first | rfl | simp [Region.wanted, yielded]) (.tmp 38) (.tmp 39) rfl zSt zSt rfl rfl h48 true (eqS_self _) ?_))
  refine (Pending_nil _).mono ?_
  rintro e w8 ⟨rfl, rfl⟩
  go_wp2_with fail
  refine (Last_nil _).mono ?_
  rintro e w9 ⟨rfl, rfl⟩
  go_wp2_with fail
  refine (Rolls_nil _).mono ?_
  rintro e wa ⟨rfl, rfl⟩
  go_wp2_with fail
  refine (Room_nil _).mono ?_
  rintro e wc ⟨rfl, rfl⟩
  go_wp2_with fail
  go_ret
  exact ⟨rfl, hb⟩
end Go.Proofs.YtnbbglhpjpebhaaDoor
