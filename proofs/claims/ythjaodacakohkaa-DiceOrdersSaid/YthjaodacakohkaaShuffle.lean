/- (Dice).Shuffle: the plain shuffle, in new memory; nothing that was there turns. Condition: the list is short. -/
import Derived.Test.YthjaodacakohkaaSplit
import Derived.Test.YthjaodacakohkaaI32
import Derived.BigRegion
import Derived.Outline
namespace Go.Proofs.Ythjaodacakohkaa
open Go.RowKit

theorem swapL_eq {ls : List Int} {i j : Nat} {a b : Int} (hi : ls[i]? = some a) (hj : ls[j]? = some b) : swapL ls i j = (ls.set i b).set j a := by
  unfold swapL
  rw [hi, hj]
theorem own_set2 {w : World} {B n g c : Nat} {e : TypeId} {xs : List Value} (hn : 0 < n) (h : w.ownsRow B e 1 (.slice (some ⟨g, 0, none⟩) n c) n xs) (j : Nat) (u : Value) : (w.setCell ⟨g, j, none⟩ u).ownsRow B e 1 (.slice (some ⟨g, 0, none⟩) n c) n (xs.set j u) := by
  obtain ⟨g', cap', hv, _, _, _, _, _, hset⟩ := own_set h hn
  injection hv with h1 _ _
  injection h1 with h1
  injection h1 with h1 _ _
  subst h1
  exact hset j u _ rfl
set_option maxHeartbeats 4000000 in
set_option maxRecDepth 20000 in
theorem Shuffle_calls (s : Nat) (A : Option Addr) (l : List Int) (n c b : Nat) (w : World) (hs : Is w b A l) (hn : l.length = n) (hl : n ≤ 1000) :
    Calls Try.prog 15 #[diceV s, .slice A n c] w fun e w' => ∃ v, e = .returned (.tuple #[v, diceV (shufN (n - 1) s l).2]) ∧ Row32 w' w.heap.size v (shufN (n - 1) s l).1 ∧ Below w.heap.size w w' := by
  have HN := Lib.hid hn
  clear hn
  have k0 := (Box.new_ w (.int .u64 (s : Int)) 26).alloc (.cells #[.int .u64 0] 26)
  have k1 := Box.new_ (w.alloc (.cells #[.int .u64 (s : Int)] 26)) (.int .u64 0) 26
  rw [show (w.alloc (.cells #[.int .u64 (s : Int)] 26)).heap.size = w.heap.size + 1 by simp] at k1
  have kb := below_alloc2 w (.cells #[.int .u64 (s : Int)] 26) (.cells #[.int .u64 0] 26)
  have kz : ((w.alloc (.cells #[.int .u64 (s : Int)] 26)).alloc (.cells #[.int .u64 0] 26)).heap.size = w.heap.size + 2 := by simp
  have hs1 := Sl.ext hs kb
  have H0 := Lib.hid k0
  have H1 := Lib.hid k1
  have HZ := Lib.hid kz
  clear hs k0 k1 kz
  go_enter Try.func15, Try.ntmps15
  go_wp2_with (at_builtin; go_loud (refine wpList_app32 ((w.alloc (.cells #[.int .u64 (s : Int)] 26)).alloc (.cells #[.int .u64 0] 26)) rfl (.const (.slice none 0 0)) (.tmp 9) rfl (w.heap.size + 2) (.slice none 0 0) [] rfl (World.ownsRow_nil _ _ _ _) b A n c l rfl hs1 HN.out (by simp; omega) (Nat.le_of_eq HZ.out.symm) ?_); intro v1 w1 hrow1 hmod1 hown1; have m0 := H0.out.mod hmod1 (by intro h; cases h); have m1 := H1.out.mod hmod1 (by intro h; cases h); have mb : Below w.heap.size w w1 := kb.trans (hmod1.below kb.size (fun i _ h => by cases h)); have hrow : w1.ownsRow (w.heap.size + 2) 21 1 v1 l.length (iv l) := hrow1.cast (List.nil_append _); clear kb H0 H1 HZ hs1 hmod1 hown1 hrow1; rw [HN.out] at hrow; obtain ⟨A1, c1, b1, hv, hc1, _, _⟩ := own_sl hrow; subst hv)
  go_loopw [7, 8, 18] (fun i x t wr => ∃ (m st : Nat) (ls : List Int), m ≤ n ∧ (n = 0 ∨ 0 < m) ∧ i = .int .i64 ((m : Int) - 1) ∧ Hid (ls.length = n ∧ shufN (m - 1) st ls = shufN (n - 1) s l) ∧ Box wr w.heap.size (.int .u64 (st : Int)) 26 ∧ Box wr (w.heap.size + 1) (.int .u64 0) 26 ∧ wr.ownsRow (w.heap.size + 2) 21 1 (.slice A1 n c1) n (iv ls) ∧ Below w.heap.size w wr) (fun i _ _ _ => (intOf i + 1).toNat)
  case atStart => exact ⟨n, s, l, Nat.le_refl _, by omega, by go_num, Lib.hid ⟨HN.out, rfl⟩, m0, m1, hrow, mb⟩
  case round =>
    obtain ⟨m, st, ls, hm, hm0, rfl, hls, b0, b1', hr, hb⟩ := hrel
    clear m0 m1 hrow mb
    have hlen := hls.out.1
    have HL := Lib.hid hls.out.1
    have HE := Lib.hid hls.out.2
    clear hlen hls
    have c0 := b0.cell
    by_cases hlt : 2 ≤ m
    · obtain ⟨k, rfl⟩ : ∃ k, m = k + 2 := ⟨m - 2, by omega⟩
      have hJ := belowN_lt (s := st) (n := k + 2) (by omega)
      have hB := Below_calls st (k + 2)
      have hsw := HE.out
      rw [show k + 2 - 1 = k + 1 by omega, shufN] at hsw
      obtain ⟨J, hJe⟩ : ∃ J, J = belowN st (k + 2) := ⟨_, rfl⟩
      obtain ⟨h, hh⟩ : ∃ h, h = goN st := ⟨_, rfl⟩
      rw [← hJe, ← hh] at hB hsw
      rw [← hJe] at hJ
      have HS := Lib.hid hsw
      clear hsw hJe hh HE
      go_wp2_with fail
      refine (hB _ (by omega)).mono ?_
      rintro e w2 ⟨rfl, hb2⟩
      have p0 := b0.ext hb2
      have p1 := b1'.ext hb2
      have pr := own_ext hr hb2
      have pb := hb.trans (hb2.mono hb.size)
      have pc := p0.cell
      have pf := p0.frozen
      clear b0 b1' hr hb hb2 c0 hB
      go_wp2_with fail
      have q0 := p0.set_ (.int .u64 (h : Int))
      have q1 := p1.other (p := ⟨w.heap.size, 0, none⟩) (by simp) (.int .u64 (h : Int))
      have qr := own_mod pr (Mod.setCell w2 ⟨w.heap.size, 0, none⟩ (.int .u64 (h : Int))) (fun i hi hx => by have := (World.ownsRow.lt pr i hi).1; simp at hx; omega)
      have qb := pb.setCell (p := ⟨w.heap.size, 0, none⟩) (Nat.le_refl _) (.int .u64 (h : Int))
      obtain ⟨V, hV⟩ : ∃ V, V = w2.setCell ⟨w.heap.size, 0, none⟩ (.int .u64 (h : Int)) := ⟨_, rfl⟩
      rw [← hV] at q0 q1 qr qb ⊢
      clear hV p0 p1 pr pb pc pf
      obtain ⟨g, cap, hv, hBg, hgl, hnc, hcell, hfr, hset⟩ := own_set qr (by omega)
      injection hv with hA hA2 hA3
      subst hA
      clear hA2 hA3
      obtain ⟨xi, hxi⟩ : ∃ xi, ls[k + 1]? = some xi := ⟨_, List.getElem?_eq_getElem (by rw [HL.out]; omega)⟩
      obtain ⟨xj, hxj⟩ : ∃ xj, ls[J]? = some xj := ⟨_, List.getElem?_eq_getElem (by rw [HL.out]; omega)⟩
      have hci := hcell (k + 1) (.int .i32 xi) (by simp [iv, hxi])
      have hcj := hcell J (.int .i32 xj) (by simp [iv, hxj])
      have hfi := hfr (k + 1)
      have hfj := hfr J
      have HSet := Lib.hid hset
      have HXi := Lib.hid hxi
      have HXj := Lib.hid hxj
      have e1 : (J : Int) < (n : Int) := by omega
      have e2 : (k : Int) + 1 < (n : Int) := by omega
      clear hcell hfr hset hxi hxj
      by_cases hJk : J = k + 1
      · subst hJk
        obtain rfl : xi = xj := Option.some.inj (HXi.out.symm.trans HXj.out)
        go_region
        go_wp2_with fail
        refine ⟨⟨k + 1, h, swapL ls (k + 1) (k + 1), by omega, .inr (by omega), by go_num, Lib.hid ⟨by rw [swapL_length, HL.out], by rw [show k + 1 - 1 = k by omega]; exact HS.out⟩, ((q0.other (p := ⟨g, k + 1, none⟩) (by simp; omega) _).other (p := ⟨g, (k + 1), none⟩) (by simp; omega) _).drew, ((q1.other (p := ⟨g, k + 1, none⟩) (by simp; omega) _).other (p := ⟨g, (k + 1), none⟩) (by simp; omega) _).drew, ?_, below_drew ((qb.setCell (by simp; omega) _).setCell (by simp; omega) _)⟩, by simp [intOf]; omega⟩
        rw [show iv (swapL ls (k + 1) (k + 1)) = ((iv ls).set (k + 1) (.int .i32 xi)).set (k + 1) (.int .i32 xi) by rw [swapL_eq HXi.out HXi.out, iv_set, iv_set]]
        exact own_mod (own_set2 (by omega) (HSet.out (k + 1) _ _ rfl) _ _) (Mod.drew (fun _ => False) _) (fun _ _ h => h)
      · have hne : ¬ (k + 1 = J) := fun h => hJk h.symm
        go_region
        go_wp2_with fail
        refine ⟨⟨k + 1, h, swapL ls (k + 1) J, by omega, .inr (by omega), by go_num, Lib.hid ⟨by rw [swapL_length, HL.out], by rw [show k + 1 - 1 = k by omega]; exact HS.out⟩, ((q0.other (p := ⟨g, k + 1, none⟩) (by simp; omega) _).other (p := ⟨g, J, none⟩) (by simp; omega) _).drew, ((q1.other (p := ⟨g, k + 1, none⟩) (by simp; omega) _).other (p := ⟨g, J, none⟩) (by simp; omega) _).drew, ?_, below_drew ((qb.setCell (by simp; omega) _).setCell (by simp; omega) _)⟩, by simp [intOf]; omega⟩
        rw [show iv (swapL ls (k + 1) J) = ((iv ls).set (k + 1) (.int .i32 xj)).set J (.int .i32 xi) by rw [swapL_eq HXi.out HXj.out, iv_set, iv_set]]
        exact own_mod (own_set2 (by omega) (HSet.out (k + 1) _ _ rfl) _ _) (Mod.drew (fun _ => False) _) (fun _ _ h => h)
    · have hm1 : m = 0 ∨ m = 1 := by omega
      have hend : shufN (m - 1) st ls = (ls, st) := by rw [show m - 1 = 0 by omega]; rfl
      have hfin := hend.symm.trans HE.out
      have HF := Lib.hid hfin
      have cz := b1'.cell
      have fz := b1'.frozen
      clear hend hfin hm1 HE
      go_wp2_with fail
      go_region
      go_wp2_with fail
      have hE := (b1'.set_ (.int .u64 (st : Int))).drew
      refine bodyPost_ret (results_tc (P := Try.prog) rfl _ _ (w.heap.size + 1) _ _ (0, 0) _ rfl hE Try.underlying26 rfl (by kernel_rfl)) rfl ?_
      refine ⟨.slice A1 n c1, ?_, ?_, below_drew (hb.setCell (by simp) _)⟩
      · rw [← HF.out]
        rfl
      · rw [← HF.out]
        show World.ownsRow _ _ _ _ _ ls.length _
        rw [HL.out]
        exact own_low (own_mod hr ((Mod.setCell _ _ _).trans (Mod.drew (fun _ => False) _) (fun _ _ h => h) (fun _ _ h => h.elim)) (fun i hi h => by have h1 := (World.ownsRow.lt hr i hi).1; have h2 : i = w.heap.size + 1 := h; omega)) (by omega)
end Go.Proofs.Ythjaodacakohkaa
