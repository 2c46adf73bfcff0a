/- Rows of int of the call's own. Conditions: those said. -/
import Derived.Test.YtemhglcdcpobpaaMaskB
namespace Go.Proofs.Ytemhglcdcpobpaa
open Go.RowKit

theorem int_info0 : (Try.prog.info? 3).map (fun i => (i.zero, i.size, i.bytes)) = some (some (.int .i64 0), 1, 8) := by kernel_rfl
abbrev RowI (w : World) (B : Nat) (v : Value) (l : List Int) : Prop := w.ownsRow B 3 1 v l.length (iz l)
theorem RowI.cast {w : World} {B : Nat} {v : Value} {l l' : List Int} (h : RowI w B v l) (e : l = l') : RowI w B v l' := e ▸ h
theorem wpList_appI {w : World} {ops : Array Oper} {rest : List Oper} {o : Oper} {a : Act} {Q : Exit → Act → World → Prop} (hw : Region.wanted o (yielded ops a.tmps) = true) (s x : Operand)
    (ho : o.op = .call { callee := .builtin .append, args := #[s, x], argTypes := #[46, 46] })
    (B : Nat) (v : Value) (l : List Int) (hs : a.eval s = v) (hown : RowI w B v l)
    (b : Nat) (A : Option Addr) (m c : Nat) (news : List Int) (hx : a.eval x = .slice A m c) (hr : Sl w b A (iz news)) (hm : news.length = m)
    (hlen : l.length + m ≤ 1000000000000) (hbase : B ≤ w.heap.size)
    (h : ∀ v' w', RowI w' B v' (l ++ news) → Mod (fun i => v.ownBlock = some i) w w' → (v'.ownBlock = v.ownBlock ∨ v'.ownBlock = some w.heap.size) → wpList Try.prog ops Q rest (a.put o.dst v') w') : wpList Try.prog ops Q (o :: rest) a w := by
  obtain ⟨i0, hi0, hz0, hz1, hz2⟩ := info_parts int_info0
  refine BigFrame.wpList_want hw fun _ hK => ?_
  refine wp_append_sl (P := Try.prog) w s x _ ho B 3 i0 _ 1 8 Try.underlying46 hi0 hz0 hz1 hz2 rfl (by omega) v l.length (iz l) hs hown b A m c (iz news) hx hr (by simp [hm]) (Sl.none_len hr (by simp [hm])) (by simp [iz, Value.oneCell'])
    (by simp only [maxLen]; omega) (by omega) hbase ?_
  intro v' w' h1 h2 h3
  exact hK _ _ (h v' w' (by unfold RowI; rw [List.length_append, hm]; have := h1; simp only [iz, List.map_append] at this ⊢; exact this) (Mod.of_grown h2) h3)
end Go.Proofs.Ytemhglcdcpobpaa
