/- Parts of one proof, in their order. -/
import Derived.Test.YtfckgfoimpileaaDoorZCodeForms04
import Derived.Test.YtfckgfoimpileaaDoorRows
import Derived.Deep.DeepCutAuto
import Derived.Laws.BitsAllLaws
import Derived.ProofKit
import Derived.OpenShut
import Derived.ShutString
import Derived.ChangeOld
import Derived.Deep.Slices
import Derived.Deep.Fields
import Derived.Lib.SmallJoins
import Derived.LaidSub
/- The reference's Cut: the first bytes of a list, in new memory; nothing that was there turns. Condition: the result's length fits. -/
namespace Go.Proofs.YtfckgfoimpileaaDoor
open Go.RowKit

set_option maxHeartbeats 400000 in
theorem Cut_calls (A : Option Addr) (l : List UInt8) (n c b : Nat) (m : Int) (w : World) (hs : Bs w b A l) (hn : l.length = n) (h1 : n ≤ maxLen) (h2 : (l.take m.toNat).length ≤ 140737488355328) :
    Calls Tryd.prog 17 #[.slice A n c, .int .i64 m] w fun e w' => ∃ v, e = .returned v ∧ Row w' w.heap.size v (l.take m.toNat) ∧ Below w.heap.size w w' := by
  unfold maxLen at h1
  have HN := Lib.hid hn
  have HL := Lib.hid h2
  clear hn h2
  go_enter Tryd.func17, Tryd.ntmps17
  go_wp2
  go_loopw [5, 10] (fun v i wr => ∃ k : Nat, k ≤ n ∧ i = .int .i64 k ∧ Row wr w.heap.size v (l.take (min k m.toNat)) ∧ Below w.heap.size w wr) (fun _ i _ => n - (intOf i).toNat)
  case atStart => exact ⟨0, Nat.zero_le _, rfl, by simpa using Row.nil_ _ _, Below.refl _ _⟩
  case round =>
    obtain ⟨k, hk, rfl, hown, hb⟩ := hrel
    by_cases hlt : k < n
    · have hkl : k < l.length := by rw [HN.out]; exact hlt
      obtain ⟨oa, rfl, hca⟩ := Bs.at_ (Sl.ext hs hb) hkl
      have ca := hca k hkl
      obtain ⟨q, hq⟩ : ∃ q, q = l[k] := ⟨_, rfl⟩
      rw [← hq] at ca
      have HQ := Lib.hid hq
      have hbs : w.heap.size ≤ wr.heap.size := hb.size
      clear hca hq
      by_cases hm : (k : Int) < m
      · have e1 : l.take (min k m.toNat) ++ [q] = l.take (min (k + 1) m.toNat) := by
          rw [HQ.out, show min k m.toNat = k by omega, show min (k + 1) m.toNat = k + 1 by omega, List.take_succ_eq_append_getElem hkl]
        have hle : (l.take (min k m.toNat)).length + 1 ≤ 140737488355328 := by
          have := HL.out
          simp only [List.length_take] at this ⊢
          omega
        have E1 := Lib.hid e1
        clear e1
        go_wp2_with (at_builtin; go_loud (refine wpList_app1 wr rfl (.tmp 18) (.tmp 20) rfl w.heap.size _ _ rfl hown q rfl rfl hle hbs ?_); intro v' w1 hown' hmod _)
        go_roundw
        case rel => exact ⟨k + 1, by omega, by go_num, hown'.cast E1.out, hb.trans (hmod.below hbs (fun i hi hv => by have := (hown.lt i hv).1; omega))⟩
        case measure => simp [intOf]; omega
      · have e1 : l.take (min k m.toNat) = l.take (min (k + 1) m.toNat) := by
          rw [show min k m.toNat = min (k + 1) m.toNat by omega]
        have E1 := Lib.hid e1
        clear e1
        go_wp2
        go_roundw
        case rel => exact ⟨k + 1, by omega, by go_num, hown.cast E1.out, hb⟩
        case measure => simp [intOf]; omega
    · go_wp2
      go_ret
      refine ⟨_, rfl, hown.cast ?_, hb⟩
      have := HN.out
      rw [show min k m.toNat = min l.length m.toNat by omega, List.take_eq_take_iff]
      omega
end Go.Proofs.YtfckgfoimpileaaDoor
/- The reference's Same: it returns whether two lists of bytes are alike, and writes nothing. Condition: the lengths fit. -/
namespace Go.Proofs.YtfckgfoimpileaaDoor
open Go.RowKit

theorem take_succ_eq (a b : List UInt8) (k : Nat) (ha : k < a.length) (hb : k < b.length) : (a.take (k + 1) = b.take (k + 1)) ↔ (a.take k = b.take k ∧ a[k] = b[k]) := by
  rw [List.take_succ_eq_append_getElem ha, List.take_succ_eq_append_getElem hb]
  constructor
  · intro h
    have := List.append_inj h (by simp; omega)
    exact ⟨this.1, by simpa using this.2⟩
  · rintro ⟨h1, h2⟩
    rw [h1, h2]

set_option maxHeartbeats 400000 in
theorem Same_calls (A B : Option Addr) (a b : List UInt8) (n m ca cb ba bb : Nat) (w : World) (ha : Bs w ba A a) (hb : Bs w bb B b) (hn : a.length = n) (hm : b.length = m) (h1 : n ≤ maxLen) (_h2 : m ≤ maxLen) :
    Calls Tryd.prog 20 #[.slice A n ca, .slice B m cb] w fun e w' => e = .returned (.bool (decide (a = b))) ∧ ∃ k, w' = w.drewN k := by
  unfold maxLen at h1
  by_cases hlen : n = m
  · subst hlen
    have hne : ((n : Int) != (n : Int)) = false := by simp
    have HN := Lib.hid hn
    have HM := Lib.hid hm
    clear hn hm
    go_enter Tryd.func20, Tryd.ntmps20
    go_wp2
    go_loopw [13] (fun i wr => ∃ k : Nat, k ≤ n ∧ i = .int .i64 k ∧ Hid (a.take k = b.take k) ∧ ∃ d, wr = w.drewN d) (fun i _ => n - (intOf i).toNat)
    case atStart => exact ⟨0, Nat.zero_le _, rfl, rfl, 0, rfl⟩
    case round =>
      obtain ⟨k, hk, rfl, hpre, d, rfl⟩ := hrel
      by_cases hlt : k < n
      · obtain ⟨oa, rfl, hca⟩ := ha.at_ (k := k) (by rw [HN.out]; exact hlt)
        obtain ⟨ob, rfl, hcb⟩ := hb.at_ (k := k) (by rw [HM.out]; exact hlt)
        have ca := hca k (by rw [HN.out]; exact hlt)
        have cb := hcb k (by rw [HM.out]; exact hlt)
        have ka : k < a.length := by rw [HN.out]; exact hlt
        have kb : k < b.length := by rw [HM.out]; exact hlt
        have ts := Lib.hid (take_succ_eq a b k ka kb)
        clear hca hcb
        have e18 : ((n : Int) ≤ 9223372036854775807) := by omega
        by_cases hx : a[k] = b[k]
        · have hq : ((a[k].toNat : Int) != (b[k].toNat : Int)) = false := by simp [hx]
          go_wp2
          go_quiet (fail)
          go_wp2
          go_roundw
          case rel => exact ⟨k + 1, by omega, by go_num, Lib.hid (ts.out.2 ⟨hpre.out, hx⟩), _, rfl⟩
          case measure => simp [intOf]; omega
        · have hq : ((a[k].toNat : Int) != (b[k].toNat : Int)) = true := by
            simp only [bne_iff_ne, ne_eq]
            intro he
            exact hx (UInt8.toNat_inj.1 (by omega))
          go_wp2
          go_quiet (fail)
          go_wp2
          go_ret
          have hab : decide (a = b) = false := by
            simp only [decide_eq_false_iff_not]
            rintro rfl
            exact hx rfl
          exact ⟨by rw [hab]; rfl, _, by first | rfl | exact World.drewN_drewN _ _ _⟩
      · go_wp2
        go_ret
        have hkn : k = n := by omega
        have hab : decide (a = b) = true := by
          simp only [decide_eq_true_eq]
          have := hpre.out
          rw [hkn, List.take_of_length_le (by rw [HN.out]; exact Nat.le_refl _), List.take_of_length_le (by rw [HM.out]; exact Nat.le_refl _)] at this
          exact this
        exact ⟨by rw [hab]; rfl, _, by first | rfl | exact World.drewN_drewN _ _ _⟩
  · have hne : ((n : Int) != (m : Int)) = true := by simp only [bne_iff_ne, ne_eq]; omega
    have hd : decide (a = b) = false := by simp only [decide_eq_false_iff_not]; rintro rfl; omega
    go_enter Tryd.func20, Tryd.ntmps20
    go_wp2
    go_ret
    exact ⟨by rw [hd]; rfl, 0, rfl⟩
end Go.Proofs.YtfckgfoimpileaaDoor
/- A byte of a row of the call's own, written. No condition. -/
namespace Go.Proofs.YtfckgfoimpileaaDoor
open Go.RowKit

theorem Row.set_ {w : World} {B k : Nat} {v : Value} {l : List UInt8} (h : Row w B v l) (hk : k < l.length) :
    ∃ g cap, v = .slice (some ⟨g, 0, none⟩) l.length cap ∧ B ≤ g ∧ g < w.heap.size ∧ w.cell? ⟨g, k, none⟩ = some (.int .u8 (l[k].toNat : Int)) ∧ w.frozen? ⟨g, k, none⟩ = false ∧
      ∀ (q : UInt8) (m : Nat) w', m = q.toNat → w'.heap[g]? = (w.setCell ⟨g, k, none⟩ (.int .u8 (m : Int))).heap[g]? → Row w' B v (l.set k q) := by
  rcases h.2 with ⟨_, hn⟩ | ⟨g, cap, cur, hv, hg, hh, hnc, hcm, hcs, hct⟩
  · omega
  · have hlt : k < cur.size := by omega
    have hct' : cur.toList.take l.length = bv l := by simpa using hct
    refine ⟨g, cap, hv, hg, (Array.getElem?_eq_some_iff.1 hh).1, ?_, frozen_of_row w g k _ _ hh, fun q m w' hm hw => ?_⟩
    · rw [cell_of_row w g k _ _ _ hh]
      have h1 : (cur.toList.take l.length)[k]? = some (.int .u8 (l[k].toNat : Int)) := by
        rw [hct', List.getElem?_eq_getElem (by simpa using hk), bv_get]
      rw [List.getElem?_take, if_pos hk] at h1
      simpa using h1
    · subst hm
      rw [heap_setCell_same w g k cur _ _ hh] at hw
      refine ⟨by simp, .inr ⟨g, cap, _, by rw [hv]; simp, hg, hw, by simpa using hnc, hcm, by simpa using hcs, ?_⟩⟩
      have h2 : (cur.setIfInBounds k (.int .u8 (q.toNat : Int))).toList = cur.toList.set k (.int .u8 (q.toNat : Int)) := by simp
      rw [h2]
      simp only [Nat.mul_one, List.length_set]
      rw [List.take_set, hct']
      simp [bv, List.map_set]
theorem Row.bs_ {w : World} {B g n cap : Nat} {l : List UInt8} (h : Row w B (.slice (some ⟨g, 0, none⟩) n cap) l) : l.length = n ∧ n ≤ cap ∧ Bs w g (some ⟨g, 0, none⟩) l := by
  rcases h.2 with ⟨hv, _⟩ | ⟨g', cap', cur, hv, hb, _, hnc, hcm, _⟩
  · cases hv
  · injection hv with h1 h2 h3
    injection h1 with h1
    injection h1 with h1 _ _
    subst h1 h2 h3
    refine ⟨rfl, hnc, fun _ => ⟨0, rfl, fun j u hu => ?_⟩⟩
    have := h.cells (g := g) rfl j u hu
    simpa [Addr.add_lit] using this
end Go.Proofs.YtfckgfoimpileaaDoor
/- CodeForms: the walk. Conditions: the numbers fit; the tables lie. -/
namespace Go.Proofs.YtfckgfoimpileaaDoor
open Go.RowKit
set_option linter.unusedVariables false

theorem okK_take {l : List Cd} (h : okK l) (k : Nat) : okK (l.take k) := fun c hc => h c (List.mem_of_mem_take hc)
theorem BSame_yes (A B : Option Addr) (a : List UInt8) (n ca cb ba bb : Nat) (w : World) (ha : Bs w ba A a) (hb : Bs w bb B a) (hn : a.length = n) (h1 : n ≤ 2000) :
    Calls Tryd.prog 20 #[.slice A n ca, .slice B n cb] w fun e w' => e = .returned (.bool true) ∧ Below w.heap.size w w' :=
  (Same_calls A B a a n n ca cb ba bb w ha hb hn hn (by simp only [maxLen]; omega) (by simp only [maxLen]; omega)).mono fun e w' h => by
    obtain ⟨rfl, k, rfl⟩ := h
    exact ⟨by simp, below_drewN (Below.refl _ _) k⟩
/-- The three texts, as they lie. -/
def TextsAt (w : World) (vb : Nat) : Prop := vb < w.heap.size ∧ ∀ k, k < 3 → ∃ A l n c b, w.cell? ⟨vb, k, none⟩ = some (.slice A n c) ∧ Bs w b A l ∧ l.length = n ∧ n ≤ c ∧ n ≤ 2000
theorem TextsAt.ext {w w' : World} {vb : Nat} (h : TextsAt w vb) (hb : Below w.heap.size w w') : TextsAt w' vb :=
  ⟨Nat.lt_of_lt_of_le h.1 hb.size, fun k hk => by
    obtain ⟨A, l, n, c, b, h1, h2, h3⟩ := h.2 k hk
    exact ⟨A, l, n, c, b, (World.cell?_of_block (hb.block vb h.1)).trans h1, Sl.ext h2 hb, h3⟩⟩
theorem TextsAt.mk3 {w : World} {vb : Nat} {t : TypeId} {A1 A2 A3 : Option Addr} {l1 l2 l3 : List UInt8} {n1 n2 n3 c1 c2 c3 b1 b2 b3 : Nat} (h : w.heap[vb]? = some (.cells #[.slice A1 n1 c1, .slice A2 n2 c2, .slice A3 n3 c3] t (0, 0)))
    (s1 : Bs w b1 A1 l1) (s2 : Bs w b2 A2 l2) (s3 : Bs w b3 A3 l3) (e1 : l1.length = n1 ∧ n1 ≤ c1 ∧ n1 ≤ 2000) (e2 : l2.length = n2 ∧ n2 ≤ c2 ∧ n2 ≤ 2000) (e3 : l3.length = n3 ∧ n3 ≤ c3 ∧ n3 ≤ 2000) : TextsAt w vb := by
  refine ⟨(Array.getElem?_eq_some_iff.1 h).1, fun k hk => ?_⟩
  have h3 : k = 0 ∨ k = 1 ∨ k = 2 := by omega
  rcases h3 with rfl | rfl | rfl
  · exact ⟨A1, l1, n1, c1, b1, by rw [cell_of_row w vb _ _ _ _ h]; rfl, s1, e1⟩
  · exact ⟨A2, l2, n2, c2, b2, by rw [cell_of_row w vb _ _ _ _ h]; rfl, s2, e2⟩
  · exact ⟨A3, l3, n3, c3, b3, by rw [cell_of_row w vb _ _ _ _ h]; rfl, s3, e3⟩
/-- The instructions, and what came in, as they lie. -/
structure FC (w : World) (A2 : Option Addr) (M : List Cd) (b2 : Nat) (A4 : Option Addr) (ra : List UInt8) (b4 : Nat) (W : World) : Prop where
  sc : Sl W b2 A2 (kv M)
  sr : Bs W b4 A4 ra
  bl : Below w.heap.size w W
namespace FC
variable {w W W0 W' : World} {b2 b4 gg : Nat} {A2 A4 : Option Addr} {M : List Cd} {ra : List UInt8}
theorem ext (f : FC w A2 M b2 A4 ra b4 W) (x : Below W.heap.size W W') : FC w A2 M b2 A4 ra b4 W' := ⟨Sl.ext f.sc x, Sl.ext f.sr x, f.bl.trans (x.mono f.bl.size)⟩
theorem past (f0 : FC w A2 M b2 A4 ra b4 W0) (f : FC w A2 M b2 A4 ra b4 W) (hm : Mod (fun i => i = gg) W W') (hg : W0.heap.size ≤ gg) : FC w A2 M b2 A4 ra b4 W' :=
  have h0 := f0.bl.size
  ⟨sl_modK f.sc hm (fun hp e => by have := Sl.lt f0.sc (by intro h5; have h6 := congrArg List.length h5; rw [kv_length, List.length_nil] at h6; omega); omega), Bs.modne f.sr hm (fun hne e => by have := Bs.lt f0.sr hne; omega), f.bl.trans (hm.below (B := w.heap.size) f.bl.size (fun i hi e => by omega))⟩
end FC
set_option maxHeartbeats 32000000 in
set_option maxRecDepth 40000 in
theorem CodeForms_walk (A : Option Addr) (L : List Cd) (n c b : Nat) (Ar : Option Addr) (rw_ : List UInt8) (nr cr br : Nat) (at_ tn : Nat) (w : World) (hT : AllT w) (hs : Sl w b A (kv L)) (hn : L.length = n) (_hm : n ≤ maxLen) (hnc : n ≤ c) (hok : okK L) (hsR : Bs w br Ar rw_) (hRn : rw_.length = nr) (hRm : nr ≤ maxLen) (hat : at_ ≤ 65535) (htn : tn ≤ 255) :
    Calls Tryd.prog 4 #[.slice A n c, .slice Ar nr cr, .int .u16 (at_ : Int), .int .u8 (tn : Int)] w fun e w' => e = .returned (.bool true) ∧ Below w.heap.size w w' := by
  have hF := fun W h => Few_calls A L n c b W h hn hnc
  have hCu := fun W a => Cut_calls Ar rw_ nr cr br 60 W a hRn hRm (by rw [List.length_take]; exact Nat.le_trans (Nat.min_le_left _ _) (by decide))
  rw [show (60 : Int).toNat = 60 from rfl] at hCu
  obtain ⟨M, hM⟩ : ∃ M, M = L.take 110 := ⟨_, rfl⟩
  obtain ⟨ra, hra⟩ : ∃ d, d = rw_.take 60 := ⟨_, rfl⟩
  have hML : M.length ≤ 110 := by rw [hM, List.length_take]; omega
  have hMo : okK M := by rw [hM]; exact okK_take hok 110
  have hral : ra.length ≤ 60 := by rw [hra, List.length_take]; omega
  rw [← hM] at hF
  rw [← hra] at hCu
  have hAw := Awake_calls w hT
  clear hM hra hok hn hRn hRm hT
  go_enter Tryd.func4, Tryd.ntmps4
  go_wp2_with fail
  refine hAw.mono ?_
  rintro e w1 ⟨rfl, hb⟩
  replace hs := Sl.ext hs hb
  replace hsR := Sl.ext hsR hb
  clear hAw
  go_wp2_with fail
  refine (hF _ hs).mono ?_
  rintro e w2 ⟨v, rfl, hrow, h1⟩
  obtain ⟨A2, c2, b2, hve, -, -, -, -, hs2, -⟩ := RowK.sl hrow
  obtain ⟨n2, hn2⟩ : ∃ n2, n2 = M.length := ⟨_, rfl⟩
  rw [← hn2] at hve hML
  subst hve
  have HN2 := Lib.hid hn2.symm
  replace hsR := Sl.ext hsR h1
  replace hb := hb.trans (h1.mono hb.size)
  clear h1 hrow hs hF hn2
  go_wp2_with fail
  refine (hCu _ hsR).mono ?_
  rintro e w3 ⟨v, rfl, hrow, h1⟩
  obtain ⟨A4, c4, b4, hve, hrc4, -, -, -, hs4, -⟩ := Row.sl hrow
  obtain ⟨n4, hn4⟩ : ∃ n4, n4 = ra.length := ⟨_, rfl⟩
  rw [← hn4] at hve hral hrc4
  subst hve
  have HN4 := Lib.hid hn4.symm
  have f : FC w A2 M b2 A4 ra b4 w3 := ⟨Sl.ext hs2 h1, hs4, hb.trans (h1.mono hb.size)⟩
  clear h1 hrow hs2 hs4 hsR hb hCu hn4
  obtain ⟨z, hz⟩ : ∃ z, z = decide (96 < n2) := ⟨_, rfl⟩
  obtain ⟨P, hP⟩ : ∃ P, P = if z then [] else codesB M := ⟨_, rfl⟩
  have hzn : z = false → n2 ≤ 96 := fun h => by rw [h] at hz; have := of_decide_eq_false hz.symm; omega
  have hzy : z = true → 96 < n2 := fun h => by rw [h] at hz; exact of_decide_eq_true hz.symm
  have hPl : P.length = if z then 0 else 1 + 12 * n2 := by
    rw [hP]
    cases hz2 : z
    · have h1 := hzn hz2
      simp only [Bool.false_eq_true, if_false]
      unfold codesB
      rw [HN2.out, num_one h1, List.length_append, rowsB_len M n2 (by rw [HN2.out]; exact Nat.le_refl _)]
      rfl
    · rfl
  have hBy : ∀ W, FC w A2 M b2 A4 ra b4 W → Calls Tryd.prog 18 #[.slice A2 n2 c2] W fun e w' => ∃ v, e = .returned v ∧ Row w' W.heap.size v P ∧ Below W.heap.size W w' := fun W f => by
    rw [hP]
    cases hz2 : z
    · exact CBytes_in A2 M n2 c2 b2 W f.sc HN2.out (hzn hz2) hMo
    · exact (CBytes_out A2 n2 c2 W (hzy hz2)).mono fun e w' h => ⟨_, h.1, Row.nil_ _ _, by rw [h.2]; exact Below.refl _ _⟩
  have hOw := fun W A c b h => Own_calls A M n2 c b W h HN2.out (by omega)
  obtain ⟨m, hm⟩ : ∃ m, m = P.length := ⟨_, rfl⟩
  rw [← hm] at hPl
  have hm2 : m ≤ 1400 := by
    rw [hPl]
    cases hz2 : z
    · have := hzn hz2
      simp only [Bool.false_eq_true, if_false]
      omega
    · simp
  have e1 : decide ((n2 : Int) > 96) = z := by rw [hz, Bool.eq_iff_iff]; simp; omega
  have HP := Lib.hid (And.intro hP (And.intro hm.symm hPl))
  have HZN := Lib.hid hzn
  clear hz hP hPl hzn hzy hm
  go_wp2_with fail
  refine (hBy _ f).mono ?_
  rintro e w5 ⟨v, rfl, hrow, h1⟩
  obtain ⟨A5, c5, b5, hve, hc5, -, -, -, hsP, -⟩ := Row.sl hrow
  rw [HP.out.2.1] at hve hc5
  subst hve
  replace f := f.ext h1
  clear h1 hrow hBy
  go_upto_if 30 with fail
  clear e1
  go_cut [10] (fun s10 wx => ∃ (wz : World) (T : List UInt8) (A9 : Option Addr) (n9 c9 b9 : Nat), wz = wx ∧ s10 = .slice A9 n9 c9 ∧ T.length = n9 ∧ FC w A2 M b2 A4 ra b4 wz ∧ Bs wz b5 A5 P ∧ Bs wz b9 A9 T ∧ n9 ≤ c9 ∧ n9 ≤ 1400)
  case first =>
    cases z with
    | true =>
      have hm0 : m = 0 := HP.out.2.2
      have e2 : ((m : Int) != 0) = false := by simp; omega
      clear hm0
      go_wp2_with fail
      go_meet
      exact ⟨_, ra, A4, _, c4, b4, rfl, rfl, HN4.out, f, hsP, f.sr, hrc4, by omega⟩
    | false =>
      have hn96 := HZN.out rfl
      have hPd : P = codesB M := HP.out.1
      have hPm := HP.out.2.1
      have hm1 : 1 ≤ m := by have := HP.out.2.2; simp only [Bool.false_eq_true, if_false] at this; omega
      have hgo := gotK_own (cs := M) (by rw [HN2.out]; exact hn96) hMo
      have hPa := fun W A c b a => KParse_any A P m c b W a hPm (by omega) M 0 (by rw [hPd, hgo]; simp [PK.ok])
      have hRB := fun W A c b a => RKBytes_calls A M n2 c b W a HN2.out hn96 hMo
      rw [← hPd] at hRB
      have HPM := Lib.hid hPm
      clear hPd hgo hPm
      go_wp2_with fail
      refine (hPa _ A5 c5 b5 hsP).mono ?_
      rintro e w9 ⟨v, rfl, hrow, h1⟩
      obtain ⟨A10, c10, b10, hve, -, -, -, -, hs10, -⟩ := RowK.sl hrow
      rw [HN2.out] at hve
      subst hve
      replace f := f.ext h1
      replace hsP := Sl.ext hsP h1
      clear h1 hrow hPa
      go_wp2_with fail
      refine (hOw _ A2 c2 b2 f.sc).mono ?_
      rintro e w10 ⟨v, rfl, hrow, h1⟩
      obtain ⟨A12, c12, b12, hve, -, -, -, -, hs12, -⟩ := RowK.sl hrow
      rw [HN2.out] at hve
      subst hve
      replace f := f.ext h1
      replace hsP := Sl.ext hsP h1
      replace hs10 := Sl.ext hs10 h1
      clear h1 hrow
      go_wp2_with fail
      refine (hRB _ A12 c12 b12 hs12).mono ?_
      rintro e w11 ⟨v, rfl, hrow, h1⟩
      obtain ⟨A13, c13, b13, hve, -, -, -, -, hs13, -⟩ := Row.sl hrow
      rw [HPM.out] at hve
      subst hve
      replace f := f.ext h1
      replace hsP := Sl.ext hsP h1
      replace hs10 := Sl.ext hs10 h1
      clear h1 hrow hs12 hRB
      have hSm := fun W a b => BSame_yes A5 A13 P m c5 c13 b5 b13 W a b HPM.out (by omega)
      go_wp2_with fail
      refine (hSm _ hsP hs13).mono ?_
      rintro e w12 ⟨rfl, h1⟩
      replace f := f.ext h1
      replace hsP := Sl.ext hsP h1
      replace hs10 := Sl.ext hs10 h1
      clear h1 hs13 hSm
      go_wp2_with fail
      refine (hOw _ A10 c10 b10 hs10).mono ?_
      rintro e w13 ⟨v, rfl, hrow, h1⟩
      obtain ⟨A14, c14, b14, hve, -, -, -, -, hs14, -⟩ := RowK.sl hrow
      rw [HN2.out] at hve
      subst hve
      replace f := f.ext h1
      replace hsP := Sl.ext hsP h1
      clear h1 hrow hs10
      go_wp2_with fail
      refine (hOw _ A2 c2 b2 f.sc).mono ?_
      rintro e w14 ⟨v, rfl, hrow, h1⟩
      obtain ⟨A15, c15, b15, hve, -, -, -, -, hs15, -⟩ := RowK.sl hrow
      rw [HN2.out] at hve
      subst hve
      replace f := f.ext h1
      replace hsP := Sl.ext hsP h1
      replace hs14 := Sl.ext hs14 h1
      clear h1 hrow hOw
      have hSk := fun W a b => RKSame_yes A14 A15 M n2 c14 b14 c15 b15 W a b HN2.out (by omega)
      go_wp2_with fail
      refine (hSk _ hs14 hs15).mono ?_
      rintro e w15 ⟨rfl, h1⟩
      replace f := f.ext h1
      replace hsP := Sl.ext hsP h1
      clear h1 hs14 hs15 hSk
      have ha := below_alloc1 w15 (.cells #[.slice A5 m c5] 36)
      go_wp2_with fail
      refine (Join_calls _ [.slice A5 m c5] [P] 1 1 w15.heap.size _ (Sl.cells_new w15 _ _) ((Bss.cons hsP HPM.out (Bss.nil_ _)).ext ha) rfl (by simp [maxLen]) (by have := HPM.out; simp; omega)).mono ?_
      rintro e w16 ⟨v, rfl, hrow, h1⟩
      have hwl : w15.heap.size ≤ (w15.alloc (.cells #[.slice A5 m c5] 36)).heap.size := by simp
      replace hrow := own_lowK hrow hwl
      replace hrow := Row.cast hrow (show [P].flatten = P by simp)
      replace h1 := ha.trans (h1.mono ha.size)
      have F0 := f
      have hsP0 := hsP
      replace f := f.ext h1
      replace hsP := Sl.ext hsP h1
      obtain ⟨I, hI⟩ : ∃ I, I = at_ % m := ⟨_, rfl⟩
      have hPm := HPM.out
      have hIl : I < P.length := by rw [hI, hPm]; exact Nat.mod_lt _ (by omega)
      have hIt : (at_ : Int).tmod (m : Int) = (I : Int) := by rw [hI, Int.tmod_eq_emod_of_nonneg (Int.natCast_nonneg _)]; simp
      have hIt2 : (at_ : Int) % (m : Int) = (I : Int) := by rw [hI]; simp
      have hIm : I < m := by rw [← hPm]; exact hIl
      obtain ⟨gg, cap, hv, hBg, hgl, hc, hf, hset⟩ := Row.set_ hrow (k := I) hIl
      rw [hPm] at hv
      subst hv
      have hnc0 : m ≤ cap := (Row.bs_ hrow).2.1
      obtain ⟨x, hx⟩ : ∃ x, x = P[I] := ⟨_, rfl⟩
      rw [← hx] at hc
      have x8 := x.toNat_lt
      have hxo : bits .xor .u8 (x.toNat : Int) (tn : Int) = ((x.toNat ^^^ tn : Nat) : Int) := u8_xor_nat x.toNat tn (by omega) (by omega)
      have HSet := Lib.hid hset
      have HG := Lib.hid hBg
      clear hset hrow hx hI h1 ha hBg hgl hwl hPm
      go_wp2_with fail
      obtain ⟨W, hW⟩ : ∃ W, W = w16.setCell ⟨gg, I, none⟩ (.int .u8 ((x.toNat ^^^ tn : Nat) : Int)) := ⟨_, rfl⟩
      rw [← hW]
      obtain ⟨u, hu8⟩ : ∃ u : UInt8, u.toNat = tn := ⟨UInt8.ofNat tn, by simp; omega⟩
      have hrow9 : Row W w15.heap.size (.slice (some ⟨gg, 0, none⟩) m cap) (P.set I (x ^^^ u)) := HSet.out (x ^^^ u) (x.toNat ^^^ tn) W (by rw [UInt8.toNat_xor, hu8]) (by rw [hW])
      obtain ⟨hl9, hnc9, hs9⟩ := Row.bs_ hrow9
      have hsm := Mod.setCell w16 ⟨gg, I, none⟩ (.int .u8 ((x.toNat ^^^ tn : Nat) : Int))
      rw [← hW] at hsm
      have hBg := HG.out
      replace f := FC.past F0 f hsm hBg
      replace hsP := Bs.modne hsP hsm (fun hne e => by have e : b5 = gg := e; have := Bs.lt hsP0 hne; omega)
      clear hW hrow9 hsm hc hf hxo hu8
      go_meet
      exact ⟨W, _, _, m, cap, gg, rfl, rfl, hl9, f, hsP, hs9, hnc9, by omega⟩
  case rest =>
    clear f hsP hOw HZN
    obtain ⟨w9, T, A9, n9, c9, b9, rfl, rfl, hT9, f, hsP, hsT, hTc, hTl⟩ := hcut
    have HT9 := Lib.hid hT9
    clear hT9
    have ha := below_alloc1 w9 (.cells #[.slice A5 m c5, .slice A4 n4 c4] 36)
    go_wp2_with fail
    refine (Join_calls _ [.slice A5 m c5, .slice A4 n4 c4] [P, ra] 2 2 w9.heap.size _ (Sl.cells_new w9 _ _) ((Bss.cons hsP HP.out.2.1 (Bss.cons f.sr HN4.out (Bss.nil_ _))).ext ha) rfl (by simp [maxLen]) (by simp; have := HP.out.2.1; have := HN4.out; omega)).mono ?_
    rintro e w10 ⟨v, rfl, hrow, h1⟩
    obtain ⟨J, hJ⟩ : ∃ J, J = P ++ ra := ⟨_, rfl⟩
    replace hrow := Row.cast hrow (show [P, ra].flatten = J by simp [hJ])
    have hJl : J.length ≤ 1500 := by rw [hJ, List.length_append]; have := HP.out.2.1; have := HN4.out; omega
    obtain ⟨A10, c10, b10, rfl, hJc, -, -, -, hsJ, -⟩ := Row.sl hrow
    replace h1 := ha.trans (h1.mono ha.size)
    have hb := f.bl
    replace hb := hb.trans (h1.mono hb.size)
    have hsR := Sl.ext f.sr h1
    replace hsT := Sl.ext hsT h1
    clear h1 ha hrow hJ hsP f
    have hq3 := heap_alloc_new w10 (.cells #[.slice A9 n9 c9, .slice A4 n4 c4, .slice A10 J.length c10] 36)
    have h1 := below_alloc1 w10 (.cells #[.slice A9 n9 c9, .slice A4 n4 c4, .slice A10 J.length c10] 36)
    have hx := TextsAt.mk3 hq3 (Sl.ext hsT h1) (Sl.ext hsR h1) (Sl.ext hsJ h1) ⟨HT9.out, hTc, by omega⟩ ⟨HN4.out, hrc4, by omega⟩ ⟨rfl, hJc, by omega⟩
    replace hb := hb.trans (h1.mono hb.size)
    clear h1 hq3 hsT hsR hsJ
    go_wp2_with fail
    go_loopw [79] (fun i wr => ∃ k : Nat, k ≤ 3 ∧ i = .int .i64 (k : Int) ∧ TextsAt wr w10.heap.size ∧ Below w.heap.size w wr) (fun i _ => 3 - (intOf i).toNat)
    case atStart => exact ⟨0, by omega, rfl, hx, hb⟩
    case round =>
      clear hx hb
      obtain ⟨k, hk, rfl, hx, hb⟩ := hrel
      by_cases hlt : k < 3
      · obtain ⟨A, l, n, c, b, hcell, hs, hln, hnc, hn2000⟩ := hx.2 k hlt
        have ej : (k : Int) < 3 := by omega
        have hPc := fun W a => KParse_r A l n c b W a hln (by omega)
        have hRc := fun W a => RKParse_r A l n c b W a hln hnc
        have hl1 := rK_len l
        obtain ⟨G, hG⟩ : ∃ G, G = (gotK l).ok := ⟨_, rfl⟩
        have hE : rKE l = if G then 0 else 2 := by rw [hG]; rfl
        rw [← hG] at hRc
        obtain ⟨D, hD⟩ : ∃ x, x = rK l := ⟨_, rfl⟩
        obtain ⟨EE, hEE⟩ : ∃ x, x = rKE l := ⟨_, rfl⟩
        rw [← hD, ← hEE] at hPc
        rw [← hD] at hRc hl1
        rw [← hEE] at hE
        obtain ⟨N, hN⟩ : ∃ N, N = D.length := ⟨_, rfl⟩
        rw [← hN] at hl1
        have HDN := Lib.hid hN.symm
        have HE := Lib.hid hE
        clear hG hD hEE hN hln hE
        go_wp2_with fail
        refine (hPc _ hs).mono ?_
        rintro e w11 ⟨v, rfl, hrow, h1⟩
        obtain ⟨Ax, cx, bx, hve, -, -, -, -, hsx, -⟩ := RowK.sl hrow
        rw [HDN.out] at hve
        subst hve
        replace hx := hx.ext h1
        replace hs := Sl.ext hs h1
        replace hb := hb.trans (h1.mono hb.size)
        clear h1 hrow hPc hcell
        go_wp2_with fail
        refine (hRc _ hs).mono ?_
        rintro e w12 ⟨v, rfl, hrow, h1⟩
        obtain ⟨Au, cu, bu, hve, -, -, -, -, hsu, -⟩ := RowK.sl hrow
        rw [HDN.out] at hve
        subst hve
        replace hx := hx.ext h1
        replace hb := hb.trans (h1.mono hb.size)
        replace hsx := Sl.ext hsx h1
        clear h1 hrow hRc hs
        have hDO := fun W a => Own_calls Ax D N cx bx W a HDN.out (by omega)
        have hDS := fun A6 c6 b6 W a1 a2 => RKSame_yes A6 Au D N c6 b6 cu bu W a1 a2 HDN.out (by omega)
        cases G with
        | true =>
          obtain rfl : EE = 0 := HE.out
          go_wp2_with fail
          refine (hDO _ hsx).mono ?_
          rintro e w13 ⟨v, rfl, hrow, h1⟩
          obtain ⟨A6, c6, b6, hve, -, -, -, -, hs6, -⟩ := RowK.sl hrow
          rw [HDN.out] at hve
          subst hve
          replace hx := hx.ext h1
          replace hb := hb.trans (h1.mono hb.size)
          replace hsu := Sl.ext hsu h1
          clear h1 hrow hsx
          go_wp2_with fail
          refine (hDS A6 c6 b6 _ hs6 hsu).mono ?_
          rintro e w14 ⟨rfl, h1⟩
          replace hx := hx.ext h1
          replace hb := hb.trans (h1.mono hb.size)
          clear h1 hs6 hsu
          go_wp2_with fail
          go_roundw
          case rel => exact ⟨k + 1, by omega, by go_num, hx, hb⟩
          case measure => simp [intOf]; omega
        | false =>
          obtain rfl : EE = 2 := HE.out
          go_wp2_with fail
          refine (hDO _ hsx).mono ?_
          rintro e w13 ⟨v, rfl, hrow, h1⟩
          obtain ⟨A6, c6, b6, hve, -, -, -, -, hs6, -⟩ := RowK.sl hrow
          rw [HDN.out] at hve
          subst hve
          replace hx := hx.ext h1
          replace hb := hb.trans (h1.mono hb.size)
          replace hsu := Sl.ext hsu h1
          clear h1 hrow hsx
          go_wp2_with fail
          refine (hDS A6 c6 b6 _ hs6 hsu).mono ?_
          rintro e w14 ⟨rfl, h1⟩
          replace hx := hx.ext h1
          replace hb := hb.trans (h1.mono hb.size)
          clear h1 hs6 hsu
          go_wp2_with fail
          go_roundw
          case rel => exact ⟨k + 1, by omega, by go_num, hx, hb⟩
          case measure => simp [intOf]; omega
      · obtain rfl : k = 3 := by omega
        go_wp2_with fail
        go_ret
        exact ⟨rfl, hb⟩
end Go.Proofs.YtfckgfoimpileaaDoor
/- How an argument that came in reads, in the words of this seat's walks. No condition. -/
namespace Go.Proofs.YtfckgfoimpileaaDoor
open Go.ChangeShapes Go.WideShapes Go.ChangeAt Go.RowKit

theorem own : ownKnob Tryd.prog.godebug = none := by kernel_rfl
theorem laidOut : laidOutB Tryd.prog = true := by kernel_rfl
end Go.Proofs.YtfckgfoimpileaaDoor
/- How a list of instructions, and an instruction, that came in read, in the words of this seat's walks; a world in which the tables lie. No condition. -/
namespace Go.Proofs.YtfckgfoimpileaaDoor
open Go.ChangeShapes Go.WideShapes Go.ChangeAt Go.RowKit Go.Deep

theorem kcode_cells : Tryd.prog.cellsOf 33 = 6 := by kernel_rfl
theorem kcode_under : ∃ f0  f1  f2  f3  f4  f5 : Field, Tryd.prog.underlying 33 = some (.struct #[f0, f1, f2, f3, f4, f5]) ∧ oneCellFields Tryd.prog #[f0, f1, f2, f3, f4, f5] = true ∧ f0.type = 5 ∧ f1.type = 5 ∧ f2.type = 5 ∧ f3.type = 5 ∧ f4.type = 21 ∧ f5.type = 31 :=
  ⟨_, _, _, _, _, _, Tryd.underlying33, by kernel_rfl, rfl, rfl, rfl, rfl, rfl, rfl⟩
set_option maxRecDepth 100000 in
theorem trod_code {H : Type} {enc : TypeId × Value → H} {W : World} {b0 fuel : Nat} {spare : Nat → Bool} {held : Bool} {cs : List Value} {x : DataW H × List MemPlace} (hlen : cs.length = 6) (ht : DataW.trod enc Tryd.prog W b0 spare held fuel 33 cs = some x) :
    ∃ y : Cd, cs = (cdA y).toList ∧ y.Ok := by
  obtain ⟨f0, f1, f2, f3, f4, f5, hu, hone, h0, h1, h2, h3, h4, h5⟩ := kcode_under
  obtain ⟨ys, n', _, _, _, hyl, hf⟩ := DataW.trod_struct hu ht
  match cs, hlen with
  | [v0, v1, v2, v3, v4, v5], _ =>
    match ys, hyl with
    | [y0, y1, y2, y3, y4, y5], _ =>
      obtain ⟨o0, k0⟩ := hone_of hone 0 f0 rfl
      obtain ⟨o1, k1⟩ := hone_of hone 1 f1 rfl
      obtain ⟨o2, k2⟩ := hone_of hone 2 f2 rfl
      obtain ⟨o3, k3⟩ := hone_of hone 3 f3 rfl
      obtain ⟨o4, k4⟩ := hone_of hone 4 f4 rfl
      obtain ⟨o5, k5⟩ := hone_of hone 5 f5 rfl
      have g0 := hf 0 f0 rfl
      have g1 := hf 1 f1 rfl
      have g2 := hf 2 f2 rfl
      have g3 := hf 3 f3 rfl
      have g4 := hf 4 f4 rfl
      have g5 := hf 5 f5 rfl
      rw [o0, k0, h0] at g0
      rw [o1, k1, h1] at g1
      rw [o2, k2, h2] at g2
      rw [o3, k3, h3] at g3
      rw [o4, k4, h4] at g4
      rw [o5, k5, h5] at g5
      simp only [List.drop_zero, List.drop_succ_cons, List.take_succ_cons, List.take_zero, List.getElem?_cons_zero, List.getElem?_cons_succ] at g0 g1 g2 g3 g4 g5
      obtain ⟨a0, e0, -, w0⟩ := DataW.trod_int Tryd.underlying5 g0
      injection e0 with e0
      have c0 := bounds_u8 w0
      obtain ⟨a1, e1, -, w1⟩ := DataW.trod_int Tryd.underlying5 g1
      injection e1 with e1
      have c1 := bounds_u8 w1
      obtain ⟨a2, e2, -, w2⟩ := DataW.trod_int Tryd.underlying5 g2
      injection e2 with e2
      have c2 := bounds_u8 w2
      obtain ⟨a3, e3, -, w3⟩ := DataW.trod_int Tryd.underlying5 g3
      injection e3 with e3
      have c3 := bounds_u8 w3
      obtain ⟨a4, e4, -, w4⟩ := DataW.trod_int Tryd.underlying21 g4
      injection e4 with e4
      have c4 := bounds_i32 w4
      obtain ⟨a5, e5, -, w5⟩ := DataW.trod_int Tryd.underlying31 g5
      injection e5 with e5
      have c5 := bounds_u32 w5
      refine ⟨⟨a0.toNat, a1.toNat, a2.toNat, a3.toNat, a4, a5.toNat⟩, ?_, by simp only; omega, by simp only; omega, by simp only; omega, by simp only; omega, by simp only; omega, by simp only; omega, by simp only; omega⟩
      simp only [cdA]
      rw [e0, e1, e2, e3, e4, e5, Int.toNat_of_nonneg c0.1, Int.toNat_of_nonneg c1.1, Int.toNat_of_nonneg c2.1, Int.toNat_of_nonneg c3.1, Int.toNat_of_nonneg c5.1]
theorem klist_of {α : Type} {n : Nat} {P : Nat → α → Prop} (h : ∀ i, i < n → ∃ x, P i x) : ∃ l : List α, l.length = n ∧ ∀ i (hi : i < l.length), P i l[i] := by
  induction n with
  | zero => exact ⟨[], rfl, fun i hi => by simp at hi⟩
  | succ n ih =>
    obtain ⟨l, hl, hp⟩ := ih (fun i hi => h i (by omega))
    obtain ⟨x, hx⟩ := h n (by omega)
    refine ⟨l ++ [x], by simp [hl], fun i hi => ?_⟩
    by_cases hin : i < l.length
    · rw [List.getElem_append_left hin]; exact hp i hin
    · have : i = n := by simp at hi; omega
      subst this
      rw [List.getElem_append_right (by omega)]
      simpa using hx
set_option maxRecDepth 100000 in
theorem open_codes {H : Type} {enc : TypeId × Value → H} {W : World} {base b0 : Nat} {spare : Nat → Bool} {held : Bool} {r : Reach} {v : Value} {d : DataW H} {p : List MemPlace} (hv : Value.okWide Tryd.prog W r base 22 v) (h : DataW.Trod enc Tryd.prog W b0 spare held 22 v d p) :
    ∃ A n c b L, v = .slice A n c ∧ L.length = n ∧ n ≤ maxLen ∧ n ≤ c ∧ okK L ∧ Sl W b A (kv L) := by
  obtain ⟨a, len, cap, rfl⟩ := okWide_slice Tryd.underlying22 hv
  obtain ⟨fuel, hf⟩ := h
  rcases open_slice Tryd.underlying22 hf with ⟨hcs, _⟩ | ⟨x, l, c, m, n, D, Pl, hcs, _, hl, hm, hmm, _, hel⟩
  · simp [Value.cells] at hcs
    obtain ⟨rfl, rfl, rfl⟩ := hcs
    exact ⟨none, 0, 0, 0, [], rfl, rfl, by simp [maxLen], Nat.le_refl _, fun c hc => (by cases hc), Sl.nil_ _ _ _⟩
  · simp [Value.cells] at hcs
    obtain ⟨rfl, rfl, rfl⟩ := hcs
    have hlm : len ≤ m := by rw [hmm]; split <;> omega
    rw [kcode_cells] at hel
    obtain ⟨xs, hxl, hxs⟩ := klist_of (n := len) (P := fun i (y : Cd) => y.Ok ∧ ∀ r, r < 6 → W.cell? (x.add (i * 6 + r)) = (cdA y).toList[r]?) (fun i hi => by
      obtain ⟨cs', hc, ht⟩ := hel i (by omega)
      obtain ⟨_, hcl, hat⟩ := World.cells?_some hc
      obtain ⟨y, hy, hyin⟩ := trod_code hcl ht
      refine ⟨y, hyin, fun r hr => ?_⟩
      have a0 := hat r (by omega)
      rw [Go.Deep.add_add, hy] at a0
      exact a0)
    have hok : okK xs := fun y hy => by
      obtain ⟨i, hi, rfl⟩ := List.getElem_of_mem hy
      exact (hxs i hi).1
    by_cases h0 : len = 0
    · have hx0 : xs = [] := List.eq_nil_of_length_eq_zero (by omega)
      subst hx0
      exact ⟨_, _, _, 0, [], rfl, hxl, by omega, hl, hok, Sl.nil_ _ _ _⟩
    · obtain ⟨bb, off, spot⟩ := x
      have hc0 := (hxs 0 (by omega)).2 0 (by omega)
      have hspot : spot = none := by
        rw [show (cdA (xs[0]'(by omega))).toList[0]? = some (.int .u8 ((xs[0]'(by omega)).op : Int)) from rfl] at hc0
        simpa [Addr.add] using World.cell?_spot hc0
      subst hspot
      refine ⟨_, _, _, bb, xs, rfl, hxl, by omega, hl, hok, fun _ => ⟨off, rfl, fun j u hu => ?_⟩⟩
      have hj := (List.getElem?_eq_some_iff.1 hu).1
      rw [kv_length] at hj
      have h1 := (hxs (j / 6) (by omega)).2 (j % 6) (by omega)
      rw [Addr.add_lit] at h1
      have h2 := kv_get (l := xs) (i := j / 6) (by omega) (r := j % 6) (by omega)
      rw [show j / 6 * 6 + j % 6 = j by omega] at h1 h2
      rw [h1, ← h2]
      exact hu
set_option maxRecDepth 100000 in
/-- An instruction by value. -/
theorem open_code {H : Type} {enc : TypeId × Value → H} {W : World} {base b0 : Nat} {spare : Nat → Bool} {held : Bool} {r : Reach} {v : Value} {d : DataW H} {p : List MemPlace} (hv : Value.okWide Tryd.prog W r base 33 v) (h : DataW.Trod enc Tryd.prog W b0 spare held 33 v d p) :
    ∃ (op a b cc : Nat) (n : Int) (m : Nat), v = .agg #[.int .u8 (op : Int), .int .u8 (a : Int), .int .u8 (b : Int), .int .u8 (cc : Int), .int .i32 n, .int .u32 (m : Int)] ∧ (Cd.mk op a b cc n m).Ok := by
  obtain ⟨f0, f1, f2, f3, f4, f5, hu, -⟩ := kcode_under
  obtain ⟨cs, rfl, hsz⟩ := okWide_struct hu hv
  obtain ⟨fuel, hf⟩ := h
  obtain ⟨y, hy, hyin⟩ := trod_code (by simpa [Value.cells] using hsz.trans kcode_cells) hf
  have h2 : cs = cdA y := by simpa [Value.cells] using hy
  exact ⟨y.op, y.a, y.b, y.c, y.n, y.m, by rw [h2]; rfl, hyin⟩
/-- The tables that the walks of plain numbers want. -/
theorem allT_of_laid {W : World} (h : laidMet Tryd.prog [("math/bits.deBruijn32tab", Rows.laid_math_bits_deBruijn32tab), ("math/bits.deBruijn64tab", Rows.laid_math_bits_deBruijn64tab), ("internal/strconv.uint64pow10", Rows.laid_internal_strconv_uint64pow10), ("hoodwink/code.shapes", Rows.laid_hoodwink_code_shapes)] W) : AllT W := by
  refine ⟨ctab_of_reads (Lib.laidMet.reads h (by simp)), ?_, ?_⟩
  · have hT : Lib.TabIs Tryd.prog W "math/bits.deBruijn32tab" .u8 (Lib.deBruijn32tab.map Int.ofNat) :=
      Lib.tabIs_of_head (g := 1) (t := 151) (e := 5) (n := 32) (by kernel_rfl) (by kernel_rfl) Tryd.underlying151 Tryd.underlying5 (by kernel_rfl) (by kernel_rfl) h
    intro j hj
    have h1 := hT.cell (g := 1) (by kernel_rfl) j (by simpa using hj)
    rw [h1]
    simp [List.getD, hj]
  · have h2 := laidMet.filter (fun x => x.1 == "internal/strconv.uint64pow10") h
    exact Lib.tabIs_of_head (g := 3) (t := 164) (e := 76) (n := 20) (by kernel_rfl) (by kernel_rfl) Tryd.underlying164 Tryd.underlying76 (by kernel_rfl) (by kernel_rfl) (rest := []) (show laidMet Tryd.prog [("internal/strconv.uint64pow10", Rows.laid_internal_strconv_uint64pow10)] W by simpa using h2)
/-- A row of numbers, laid. -/
noncomputable def layVals (zs : List Value) : Obj → Obj
  | .cells _ t frozen => .cells zs.toArray t frozen
  | o => o
/-- A world in which the tables lie as they are laid. -/
noncomputable def laidWorld (os : Os) : World :=
  { World.holding Tryd.prog os ⟨#[], #[], []⟩ with heap := ((((World.holding Tryd.prog os ⟨#[], #[], []⟩).heap.modify 1 (layVals (Lib.deBruijn32tab.map fun z => .int .u8 (Int.ofNat z)))).modify 8 (layVals (Lib.deBruijn64tab.map fun z => .int .u8 (Int.ofNat z)))).modify 3 (layVals (Lib.pow10Tab.map fun z => .int .u64 z))).modify 0 (layVals (shapeT.flatMap fun r => [.string ⟨r.1.toArray⟩, .int .u8 (r.2.1 : Int), .int .u8 (r.2.2 : Int)])) }
end Go.Proofs.YtfckgfoimpileaaDoor
/- How bytes that came in read, in the words of this seat's walks. No condition. -/
namespace Go.Proofs.YtfckgfoimpileaaDoor
open Go.ChangeShapes Go.WideShapes Go.ChangeAt Go.RowKit

theorem ints_bs {w : World} {x : Addr} {len : Nat} {zs : List Int} (hz : len ≤ zs.length) (hc : ∀ i, i < zs.length → w.cell? (x.add i) = some (.int .u8 (zs.getD i 0))) (hw : ∀ n ∈ zs, (Lit.int .u8 n).wf = true) :
    ∃ b l, l.length = len ∧ Bs w b (some x) l := by
  refine ⟨x.block, (zs.take len).map fun z => UInt8.ofNat z.toNat, by simp; omega, fun hne => ?_⟩
  have h0 : 0 < zs.length := by
    rcases Nat.eq_zero_or_pos len with h | h
    · subst h; simp at hne
    · omega
  obtain ⟨bb, off, spot⟩ := x
  have hspot : spot = none := by simpa [Addr.add] using World.cell?_spot (hc 0 h0)
  subst hspot
  refine ⟨off, rfl, fun j u hu => ?_⟩
  have hj : j < len := by
    have := (List.getElem?_eq_some_iff.1 hu).1
    simp [bv] at this
    omega
  have hjz : j < zs.length := by omega
  have h1 := hc j hjz
  rw [Addr.add_lit] at h1
  rw [h1]
  have hm : zs.getD j 0 = zs[j] := by simp [List.getD, hjz]
  have hb := bounds_u8 (hw zs[j] (List.getElem_mem hjz))
  have h2 : (bv ((zs.take len).map fun z => UInt8.ofNat z.toNat))[j]? = some (.int .u8 ((UInt8.ofNat zs[j].toNat).toNat : Int)) := by
    simp [bv, hj, hjz]
  rw [h2] at hu
  injection hu with hu
  rw [← hu, hm, u8_ofNat]
  congr 2
  omega

set_option maxRecDepth 100000 in
theorem open_bytes {H : Type} {enc : TypeId × Value → H} {W : World} {base b0 : Nat} {spare : Nat → Bool} {held : Bool} {r : Reach} {v : Value} {d : DataW H} {p : List MemPlace} (hv : Value.okWide Tryd.prog W r base 36 v) (h : DataW.Trod enc Tryd.prog W b0 spare held 36 v d p) :
    ∃ A n c b l, v = .slice A n c ∧ l.length = n ∧ n ≤ maxLen ∧ Bs W b A l := by
  obtain ⟨a, len, cap, rfl⟩ := okWide_slice Tryd.underlying36 hv
  obtain ⟨fuel, hf⟩ := h
  rcases open_ints Tryd.underlying36 Tryd.underlying5 (by kernel_rfl) hf with ⟨hcs, _⟩ | ⟨x, l, c, zs, hcs, _, hl, hm, hz, _, hcell, hwz⟩
  · simp [Value.cells] at hcs
    obtain ⟨rfl, rfl, rfl⟩ := hcs
    exact ⟨none, 0, 0, 0, [], rfl, rfl, by simp [maxLen], Sl.nil_ _ _ _⟩
  · simp [Value.cells] at hcs
    obtain ⟨rfl, rfl, rfl⟩ := hcs
    obtain ⟨b, l', hl', hs⟩ := ints_bs (by rw [hz]; split <;> omega) hcell hwz
    exact ⟨_, _, _, b, l', rfl, hl', by omega, hs⟩
end Go.Proofs.YtfckgfoimpileaaDoor
