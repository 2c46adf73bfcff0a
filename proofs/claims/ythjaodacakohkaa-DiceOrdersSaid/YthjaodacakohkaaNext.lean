/- (Dice).Next, Below, and the reference's: the plain numbers; nothing that was there turns. Condition: the state fits 64 bits, the bound 32. -/
import Derived.Test.YthjaodacakohkaaMix
import Derived.RegionTactic
import Derived.Deep.RegionWith
namespace Go.Proofs.Ythjaodacakohkaa
open Go.RowKit

theorem bcell {W w1 : World} (hb : Below W.heap.size W w1) : (∀ b o, b < W.heap.size → w1.cell? ⟨b, o, none⟩ = W.cell? ⟨b, o, none⟩) ∧ (∀ b o, b < W.heap.size → w1.frozen? ⟨b, o, none⟩ = W.frozen? ⟨b, o, none⟩) :=
  ⟨fun b o h => hb.cell (p := ⟨b, o, none⟩) h, fun b o h => hb.frozen (p := ⟨b, o, none⟩) h⟩
abbrev diceV (s : Nat) : Value := .agg #[.int .u64 (s : Int)]
set_option maxHeartbeats 1000000 in
set_option maxRecDepth 20000 in
theorem Next_calls (s : Nat) (w : World) :
    Calls Try.prog 10 #[diceV s] w fun e w' => e = .returned (.tuple #[.int .u32 (nextN s : Nat), diceV (goN s)]) ∧ Below w.heap.size w w' := by
  have hG : IntKind.u64.wrap ((s : Int) + 11400714819323198485) = ((goN s : Nat) : Int) := by
    rw [IntKind.wrap_u64]; unfold goN strideN two64; omega
  have hN : ((mixN (goN s) : Nat) : Int) / 4294967296 = ((nextN s : Nat) : Int) := by unfold nextN; omega
  have lN := nextN_lt s
  have lG := goN_lt s
  obtain ⟨g, hg⟩ : ∃ g, g = goN s := ⟨_, rfl⟩
  obtain ⟨n, hn⟩ : ∃ n, n = nextN s := ⟨_, rfl⟩
  rw [← hg] at hG lG hN ⊢
  rw [← hn] at hN lN ⊢
  clear hg hn
  go_enter Try.func10, Try.ntmps10
  go_wp2_with fail
  have hW : IntKind.u32.wrap (n : Int) = (n : Int) := IntWalk.u32_in _ (by omega)
  go_region_with (go_at_call 21; refine (Mix_calls g _ lG).mono ?_; rintro e w1 ⟨rfl, rfl⟩)
  all_goals
    go_wp2_with fail
    refine bodyPost_ret (v := .tuple #[.int .u32 (n : Int), .agg #[.int .u64 (g : Int)]]) (by simp [results, Try.results10, go_sem]) rfl ⟨rfl, ?_⟩
    exact below_drew (((Below.refl _ _).alloc (Nat.le_refl _) _).alloc (by simp) _)

end Go.Proofs.Ythjaodacakohkaa
