/- awake: the document's example is met. No condition. -/
import Derived.Test.YtemhglcdcpobpaaBoardLs
namespace Go.Proofs.Ytemhglcdcpobpaa
open Go.RowKit

theorem okC_one : okC [(7, 1)] := fun c hc => by
  rw [List.mem_singleton] at hc
  subst hc
  exact ⟨⟨by omega, by omega⟩, by omega⟩
theorem view_one : viewL 1 [(7, 1)] = [(0, 1)] := by decide
set_option maxHeartbeats 4000000 in
set_option maxRecDepth 20000 in
theorem Awake_calls (w : World) : Calls Try.prog 10 #[] w fun e w' => e = .returned (.bool true) ∧ Below w.heap.size w w' := by
  have hO := fun W b h => Of_calls (some ⟨b, 0, none⟩) [0] 1 1 b W h rfl (by omega)
  rw [show withN 0 [0] = 1 by decide] at hO
  have hN := fun W b h => New_in (some ⟨b, 0, none⟩) [(7, 1)] 1 1 b W h rfl (by omega)
  have hV := fun W => View_calls [(7, 1)] 1 W (by decide) okC_one
  rw [view_one] at hV
  have hA0 := fun W => At_in [(0, 1)] 0 W (by decide) (by decide)
  have hA1 := fun W => At_in [(7, 1)] 0 W (by decide) (by decide)
  simp only [List.getElem_cons_zero] at hA0 hA1
  go_enter Try.func10, Try.ntmps10
  go_wp2_with fail
  have s1 := below_alloc1 w (.cells #[.int .i64 0] 3)
  refine (hO _ _ (Sl.one_new w (.int .i64 0) 3)).mono ?_
  rintro e w1 ⟨rfl, rfl⟩
  clear hO
  go_wp2_with fail
  have s2 := below_alloc1 (w.alloc (.cells #[.int .i64 0] 3)) (.cells #[.int .i32 7, .int .u32 1] 28)
  have hs2 := Sl.cell_new (w.alloc (.cells #[.int .i64 0] 3)) (7, 1) 28
  rw [show (w.alloc (.cells #[.int .i64 0] 3)).heap.size = w.heap.size + 1 by simp] at hs2
  have hb2 := s1.trans (s2.mono s1.size)
  refine (hN _ _ hs2).mono ?_
  rintro e w2 ⟨rfl, hb3⟩
  have hb := hb2.trans (hb3.mono hb2.size)
  clear hN s1 s2 hs2 hb2 hb3
  have hb := hb.alloc hb.size (.cells (bdL [(7, 1)]) 31)
  have q := BoxL.new_ w2 [(7, 1)]
  go_wp2_with (first | ((with_reducible refine at_al 31 1 ?_); refine wpList_al rfl rfl (some 1) rfl w2.heap.size rfl ?_) | ((with_reducible refine at_st 31 1 13 ?_); refine wpList_put rfl (.tmp 1) (.tmp 13) rfl rfl [(7, 1)] rfl rfl ?_) | ((with_reducible refine at_ld 31 1 ?_); refine wpList_ld rfl (.tmp 1) rfl w2.heap.size rfl [(7, 1)] q ?_))
  refine (hV _).mono ?_
  rintro e w3 ⟨rfl, hb3⟩
  have q := q.ext hb3
  have hb := hb.trans (hb3.mono hb.size)
  clear hb3 hV
  go_wp2_with fail
  refine (hA0 _).mono ?_
  rintro e w4 ⟨rfl, hb4⟩
  have q := q.ext hb4
  have hb := hb.trans (hb4.mono hb.size)
  have hb := hb.alloc hb.size (.cells #[.int .i32 0, .int .u32 1] 28)
  have q := q.alloc (.cells #[.int .i32 0, .int .u32 1] 28)
  have k := BoxC.new_ w4 0 1
  clear hb4 hA0
  go_wp2_with ((with_reducible refine at_ld 31 1 ?_); refine wpList_ld rfl (.tmp 1) rfl w2.heap.size rfl [(7, 1)] q ?_)
  refine (hA1 _).mono ?_
  rintro e w5 ⟨rfl, hb5⟩
  have k := k.ext hb5
  have hb := hb.trans (hb5.mono hb.size)
  have hb := hb.alloc hb.size (.cells #[.int .i32 7, .int .u32 1] 28)
  have k := k.alloc (.cells #[.int .i32 7, .int .u32 1] 28)
  obtain ⟨k0, k1⟩ := And.intro k.c0 k.c1
  clear hb5 hA1 q
  go_wp2_with fail
  go_ret
  exact ⟨rfl, hb⟩
end Go.Proofs.Ytemhglcdcpobpaa
