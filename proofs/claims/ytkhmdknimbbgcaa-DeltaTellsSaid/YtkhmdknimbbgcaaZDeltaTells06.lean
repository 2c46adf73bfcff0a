/- Parts of one proof, in their order. -/
import Derived.Test.YtkhmdknimbbgcaaZDeltaTells05
/- awake: the document's example. No condition. -/
namespace Go.Proofs.Ytkhmdknimbbgcaa
open Go.RowKit

theorem okC_two : okC [(7, 1), (8, 0)] := fun c hc => by
  simp only [List.mem_cons, List.not_mem_nil, or_false] at hc
  rcases hc with rfl | rfl
  · exact ⟨⟨by omega, by omega⟩, by omega⟩
  · exact ⟨⟨by omega, by omega⟩, by omega⟩
theorem okC_zero : okC [(0, 0)] := fun c hc => by
  simp only [List.mem_singleton] at hc
  subst hc
  exact ⟨⟨by omega, by omega⟩, by omega⟩
theorem sum_lt (L : List (Int × Nat)) : hashL L < 4294967296 := sumN_lt _
set_option maxHeartbeats 8000000 in
set_option maxRecDepth 20000 in
theorem Awake_calls (w : World) : Calls Try.prog 8 #[] w fun e w' => e = .returned (.bool true) ∧ Below w.heap.size w w' := by
  have hN := fun W b h => New_in (some ⟨b, 0, none⟩) [(7, 1), (8, 0)] 2 2 b W h rfl (by omega)
  have hO := fun W => Of_calls [(7, 1), (8, 0)] 2 0 5 W (by decide) okC_two (by omega) (by omega)
  rw [show placesB 2 [((7 : Int), 1), (8, 0)].length = [1] by decide, show cellsTo (viewL 0 [((7 : Int), 1), (8, 0)]) 2 [((7 : Int), 1), (8, 0)].length = [(0, 0)] by decide] at hO
  have hhl := sum_lt (viewL 0 [(7, 1), (8, 0)])
  obtain ⟨H, hH⟩ : ∃ H, H = hashL (viewL 0 [((7 : Int), 1), (8, 0)]) := ⟨_, rfl⟩
  rw [← hH] at hO hhl
  clear hH
  obtain ⟨L0, hL0⟩ : ∃ L0, L0 = [((7 : Int), 1), (8, 0)] := ⟨_, rfl⟩
  have hS := Sl.cells_new w #[.int .i32 7, .int .u32 1, .int .i32 8, .int .u32 0] 29
  have hS : Sl (w.alloc (.cells #[.int .i32 7, .int .u32 1, .int .i32 8, .int .u32 0] 29)) w.heap.size (some ⟨w.heap.size, 0, none⟩) (cv [(7, 1), (8, 0)]) := hS
  rw [← hL0] at hN hO hS
  clear hL0
  go_enter Try.func8, Try.ntmps8
  have hb := below_alloc1 w (.cells #[.int .i32 7, .int .u32 1, .int .i32 8, .int .u32 0] 29)
  go_wp2_with fail
  refine (hN _ _ hS).mono ?_
  rintro e w1 ⟨rfl, hb1⟩
  replace hb := hb.trans (hb1.mono hb.size)
  clear hb1
  clear hN hS
  replace hb := hb.alloc hb.size (.cells (bdL L0) 32)
  have q1 := BoxL.new_ w1 L0
  go_wp2_with (first | ((with_reducible refine at_al 32 1 ?_); refine wpList_al rfl rfl (some 1) rfl w1.heap.size rfl ?_) | ((with_reducible refine at_st 32 1 9 ?_); refine wpList_put rfl (.tmp 1) (.tmp 9) rfl rfl L0 rfl rfl ?_) | ((with_reducible refine at_ld 32 1 ?_); refine wpList_ld rfl (.tmp 1) rfl w1.heap.size rfl L0 q1 ?_))
  refine (hO _).mono ?_
  rintro e w2 ⟨vp, vc, rfl, hp, hc, hb2⟩
  replace q1 := q1.ext hb2
  replace hb := hb.trans (hb2.mono hb.size)
  clear hb2
  clear hO
  obtain ⟨Ap, cp, bp, rfl, _, _, _, _, hps, _⟩ := Row.sl hp
  obtain ⟨Ac, cc, bc, rfl, _, _, _, _, hcs, _⟩ := RowC.sl hc
  simp only [List.length_cons, List.length_nil, Nat.zero_add] at hb hps hcs ⊢
  clear hp hc q1
  have z := BoxD.new_ w2 5 H (.slice Ap 1 cp) (.slice Ac 1 cc)
  replace hps := Sl.alloc hps (.cells #[.int .u32 5, .int .u32 (H : Int), .slice Ap 1 cp, .slice Ac 1 cc] 38)
  replace hcs := Sl.alloc hcs (.cells #[.int .u32 5, .int .u32 (H : Int), .slice Ap 1 cp, .slice Ac 1 cc] 38)
  replace hb := hb.alloc hb.size (.cells #[.int .u32 5, .int .u32 (H : Int), .slice Ap 1 cp, .slice Ac 1 cc] 38)
  obtain ⟨e0, e1, e2, e3⟩ := And.intro z.c0 (And.intro z.c1 (And.intro z.c2 z.c3))
  rw [show ((5 : Nat) : Int) = 5 from rfl] at e0
  go_wp2_with fail
  clear e0 e1 e2 e3
  refine (Bytes_yes 5 H Ap [1] 1 cp bp Ac [(0, 0)] cc bc _ hps rfl hcs rfl (by omega) (by decide) okC_zero (by omega) hhl).mono ?_
  rintro e w3 ⟨v, rfl, hrow, hb3⟩
  replace hps := Sl.ext hps hb3
  replace hcs := Sl.ext hcs hb3
  replace z := z.ext hb3
  replace hb := hb.trans (hb3.mono hb.size)
  clear hb3
  obtain ⟨Av, cb, bb, hv, _⟩ := Row.sl hrow
  rw [dB_len _ _ _ _ rfl] at hv
  simp only [List.length_cons, List.length_nil, Nat.zero_add, Nat.mul_one, Nat.reduceAdd] at hv
  subst hv
  clear hrow
  obtain ⟨op, rfl, f0⟩ := Bs.at_ hps (k := 0) (by decide)
  have f0 := f0 0 (by decide)
  obtain ⟨oc, rfl, f1, f2⟩ := sl_off hcs (i := 0) (by decide)
  obtain ⟨e0, e1, e2, e3⟩ := And.intro z.c0 (And.intro z.c1 (And.intro z.c2 z.c3))
  rw [show ((5 : Nat) : Int) = 5 from rfl] at e0
  simp at f0 f1 f2
  go_wp2_with fail
  go_ret
  exact ⟨rfl, hb⟩
end Go.Proofs.Ytkhmdknimbbgcaa
