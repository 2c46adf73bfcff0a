/- MaskMeets: the walk. Conditions: the library's table lies as it lays it; the masks fit; the list is no longer than may be. -/
import Derived.Test.YtbbabmiacmmkpaaDoorMeet
import Derived.Test.YtbbabmiacmmkpaaDoorMRefList
namespace Go.Proofs.YtbbabmiacmmkpaaDoor
open Go.RowKit

theorem of_obs' {a : Nat} (ha : a < 4294967296) (m : Nat) (l : List Int) (hm : m < 4294967296) (h : ∀ i, i < 32 → (m.testBit i || decide ((i : Int) ∈ l)) = a.testBit i) : withN m l = a :=
  ext32 (withN_lt hm _) ha fun i hi => by rw [withN_bit _ _ i hi, h i hi]
theorem mem_up {m i : Nat} (hi : i < 32) : decide ((i : Int) ∈ upTo m 32) = m.testBit i := by
  rw [upTo_all]
  cases h : m.testBit i
  · simp only [decide_eq_false_iff_not, List.mem_map, not_exists, not_and]
    intro k hk e
    have : k = i := by omega
    subst this
    rw [(obs_mem.1 hk).2] at h
    cases h
  · simp only [decide_eq_true_eq, List.mem_map]
    exact ⟨i, obs_mem.2 ⟨hi, h⟩, rfl⟩
theorem word_up {m : Nat} (hm : m < 4294967296) : withN 0 (upTo m 32) = m := of_obs' hm 0 _ (by omega) fun i hi => by rw [Nat.zero_testBit, mem_up hi]; rfl
theorem word_app {m : Nat} (hm : m < 4294967296) (l : List Int) : withN 0 (upTo m 32 ++ l) = withN m l := by
  refine of_obs' (withN_lt hm l) 0 _ (by omega) fun i hi => ?_
  rw [Nat.zero_testBit, withN_bit m l i hi, ← mem_up hi]
  simp
theorem less_none {m : Nat} (hm : m < 4294967296) : lessN m 0 = m := ext32 (lessN_lt 0 hm) hm fun i hi => by rw [lessN_bit m (by omega) i hi, Nat.zero_testBit]; simp
theorem up_empty {m : Nat} (hm : m < 4294967296) : (upTo m 32).isEmpty = decide (m = 0) := by
  rw [Bool.eq_iff_iff]
  simp only [List.isEmpty_iff, decide_eq_true_eq]
  constructor
  · intro h
    have := word_up hm
    rw [h] at this
    exact this.symm
  · rintro rfl
    simp [upTo]
/-- Three rows of the call's own, apart from each other. -/
structure St3 (W0 wr : World) (u1 : Value) (l1 : List Int) (u2 : Value) (l2 : List Int) (u3 : Value) (l3 : List Int) : Prop where
  r1 : RowI wr W0.heap.size u1 l1
  r2 : RowI wr W0.heap.size u2 l2
  r3 : RowI wr W0.heap.size u3 l3
  d12 : ∀ k, u1.ownBlock = some k → u2.ownBlock ≠ some k
  d13 : ∀ k, u1.ownBlock = some k → u3.ownBlock ≠ some k
  d23 : ∀ k, u2.ownBlock = some k → u3.ownBlock ≠ some k
  h : Below W0.heap.size W0 wr
section
variable {W0 wr : World} {u1 u2 u3 : Value} {l1 l2 l3 : List Int}
theorem St3.swap12 (s : St3 W0 wr u1 l1 u2 l2 u3 l3) : St3 W0 wr u2 l2 u1 l1 u3 l3 := ⟨s.r2, s.r1, s.r3, fun k a b => s.d12 k b a, s.d23, s.d13, s.h⟩
theorem St3.swap13 (s : St3 W0 wr u1 l1 u2 l2 u3 l3) : St3 W0 wr u3 l3 u2 l2 u1 l1 := ⟨s.r3, s.r2, s.r1, fun k a b => s.d23 k b a, fun k a b => s.d13 k b a, fun k a b => s.d12 k b a, s.h⟩
theorem St3.app1 (s : St3 W0 wr u1 l1 u2 l2 u3 l3) {o : Obj} {w1 : World} {v : Value} {l : List Int} (hr : RowI w1 W0.heap.size v l) (hm : Mod (fun i => u1.ownBlock = some i) (wr.alloc o) w1) (ho : v.ownBlock = u1.ownBlock ∨ v.ownBlock = some (wr.alloc o).heap.size) : St3 W0 w1 v l u2 l2 u3 l3 := by
  have hne : ∀ (u : Value) (l' : List Int), RowI wr W0.heap.size u l' → (∀ k, u1.ownBlock = some k → u.ownBlock ≠ some k) → ∀ k, v.ownBlock = some k → u.ownBlock ≠ some k := by
    intro u l' hu hd k hk hu2
    rcases ho with h | h
    · exact hd k (h ▸ hk) hu2
    · rw [h] at hk
      injection hk with hk
      have := (World.ownsRow.lt hu k hu2).2
      simp at hk
      omega
  refine ⟨hr, own_mod (World.ownsRow.alloc s.r2 _) hm (fun k hk h => s.d12 k h hk), own_mod (World.ownsRow.alloc s.r3 _) hm (fun k hk h => s.d13 k h hk), hne _ _ s.r2 s.d12, hne _ _ s.r3 s.d13, s.d23, ?_⟩
  exact (s.h.alloc s.h.size o).trans (hm.below (by have := s.h.size; simp; omega) (fun i hi h => by have := (World.ownsRow.lt s.r1 i h).1; omega))
theorem St3.app2 (s : St3 W0 wr u1 l1 u2 l2 u3 l3) {o : Obj} {w1 : World} {v : Value} {l : List Int} (hr : RowI w1 W0.heap.size v l) (hm : Mod (fun i => u2.ownBlock = some i) (wr.alloc o) w1) (ho : v.ownBlock = u2.ownBlock ∨ v.ownBlock = some (wr.alloc o).heap.size) : St3 W0 w1 u1 l1 v l u3 l3 := (s.swap12.app1 hr hm ho).swap12
theorem St3.app3 (s : St3 W0 wr u1 l1 u2 l2 u3 l3) {o : Obj} {w1 : World} {v : Value} {l : List Int} (hr : RowI w1 W0.heap.size v l) (hm : Mod (fun i => u3.ownBlock = some i) (wr.alloc o) w1) (ho : v.ownBlock = u3.ownBlock ∨ v.ownBlock = some (wr.alloc o).heap.size) : St3 W0 w1 u1 l1 u2 l2 v l := (s.swap13.app1 hr hm ho).swap13
theorem St3.cast (s : St3 W0 wr u1 l1 u2 l2 u3 l3) {k1 k2 k3 : List Int} (e1 : l1 = k1) (e2 : l2 = k2) (e3 : l3 = k3) : St3 W0 wr u1 k1 u2 k2 u3 k3 := e1 ▸ e2 ▸ e3 ▸ s
end
set_option maxHeartbeats 8000000 in
set_option maxRecDepth 20000 in
theorem MaskMeets_walk (a b c : Nat) (A : Option Addr) (l : List Int) (n cp bl : Nat) (w : World) (hTab : Tab w) (hs : Sl w bl A (iz l)) (hn : l.length = n) (hnc : n ≤ cp) (ha : a ≤ 4294967295) (hbl : b ≤ 4294967295) (hcl : c ≤ 4294967295) :
    Calls Tryd.prog 4 #[.int .u32 a, .int .u32 b, .int .u32 c, .slice A n cp] w fun e w' => e = .returned (.bool true) ∧ Below w.heap.size w w' := by
  have ha : a < 4294967296 := by omega
  have hbl : b < 4294967296 := by omega
  have hcl : c < 4294967296 := by omega
  have hF := fun W h => few_calls A l n cp bl W h hn hnc
  have hLa := fun W => RefList_calls a W ha
  have hLb := fun W => RefList_calls b W hbl
  have hLc := fun W => RefList_calls c W hcl
  rw [← upTo_all] at hLa hLb hLc
  clear hn hnc
  obtain ⟨lf, hlf⟩ : ∃ lf, lf = l.take 40 := ⟨_, rfl⟩
  have hlfl : lf.length ≤ 40 := by rw [hlf, List.length_take]; omega
  rw [← hlf] at hF
  clear hlf
  go_enter Tryd.func4, Tryd.ntmps4
  go_wp2_with fail
  refine (awake_calls _ hTab).mono ?_
  rintro e w1 ⟨rfl, hb⟩
  have hs1 := Sl.ext hs hb
  clear hTab hs
  go_wp2_with fail
  refine (hF _ hs1).mono ?_
  rintro e w2 ⟨vf, rfl, hrf, hb2⟩
  have hb := hb.trans (hb2.mono hb.size)
  obtain ⟨Af, cf, bf, rfl, _, _, hsf⟩ := own_sl hrf
  have hrz0 := hb.size
  clear hF hs1 hb2 hrf
  go_wp2_with fail
  refine (hLa _).mono ?_
  rintro e w3 ⟨vx, rfl, hrx, hb2⟩
  have hz23 := hb2.size
  have hb := hb.trans (hb2.mono hb.size)
  have hsf := Sl.ext hsf hb2
  obtain ⟨Ax, cx, bx, rfl, _, _, hsx⟩ := own_sl hrx
  clear hLa hb2
  go_wp2_with fail
  refine (hLb _).mono ?_
  rintro e w4 ⟨vy, rfl, hry, hb2⟩
  have hz34 := hb2.size
  have hb := hb.trans (hb2.mono hb.size)
  have hsf := Sl.ext hsf hb2
  have hsx := Sl.ext hsx hb2
  have hrx := own_ext hrx hb2
  obtain ⟨Ay, cy, by_, rfl, _, _, hsy⟩ := own_sl hry
  clear hLb hb2 hry
  go_wp2_with fail
  refine (hLc _).mono ?_
  rintro e W0 ⟨vz, rfl, hrz, hb2⟩
  have hz40 := hb2.size
  have hb := hb.trans (hb2.mono hb.size)
  have hsf := Sl.ext hsf hb2
  have hsx := Sl.ext hsx hb2
  have hsy := Sl.ext hsy hb2
  have hrx := own_ext hrx hb2
  obtain ⟨Az, cz, bz, rfl, _, _, hsz⟩ := own_sl hrz
  clear hLc hb2 hrz
  have HIx := Lib.hid (fun (W : World) (h : Below W0.heap.size W0 W) (i : Nat) (hi : i < 32) => show Calls Tryd.prog 14 #[.slice Ax (upTo a 32).length cx, .int .i64 (i : Int)] W fun e w' => e = .returned (.bool (a.testBit i)) ∧ w' = W by
    rw [← mem_up hi]; exact RefIn_calls Ax _ _ cx bx (i : Int) W (Sl.ext hsx h) rfl (by have := upTo_len a 32; omega))
  have HIy := Lib.hid (fun (W : World) (h : Below W0.heap.size W0 W) (i : Nat) (hi : i < 32) => show Calls Tryd.prog 14 #[.slice Ay (upTo b 32).length cy, .int .i64 (i : Int)] W fun e w' => e = .returned (.bool (b.testBit i)) ∧ w' = W by
    rw [← mem_up hi]; exact RefIn_calls Ay _ _ cy by_ (i : Int) W (Sl.ext hsy h) rfl (by have := upTo_len b 32; omega))
  have HIz := Lib.hid (fun (W : World) (h : Below W0.heap.size W0 W) (i : Nat) (hi : i < 32) => show Calls Tryd.prog 14 #[.slice Az (upTo c 32).length cz, .int .i64 (i : Int)] W fun e w' => e = .returned (.bool (c.testBit i)) ∧ w' = W by
    rw [← mem_up hi]; exact RefIn_calls Az _ _ cz bz (i : Int) W (Sl.ext hsz h) rfl (by have := upTo_len c 32; omega))
  obtain ⟨X, hX⟩ : ∃ X, X = a &&& b &&& c := ⟨_, rfl⟩
  obtain ⟨Y, hY⟩ : ∃ Y, Y = a ||| b ||| c := ⟨_, rfl⟩
  obtain ⟨Z, hZ⟩ : ∃ Z, Z = lessN a b := ⟨_, rfl⟩
  have HX := Lib.hid hX
  have HY := Lib.hid hY
  have HZ := Lib.hid hZ
  have HBX := Lib.hid (show ∀ i, X.testBit i = (a.testBit i && b.testBit i && c.testBit i) by intro i; rw [hX, Nat.testBit_and, Nat.testBit_and])
  have HBY := Lib.hid (show ∀ i, Y.testBit i = (a.testBit i || b.testBit i || c.testBit i) by intro i; rw [hY, Nat.testBit_or, Nat.testBit_or])
  have HBZ := Lib.hid (show ∀ i, i < 32 → Z.testBit i = (a.testBit i && !b.testBit i) by intro i hi; rw [hZ, lessN_bit a hbl i hi])
  have HSX := Lib.hid hsx
  have HSF := Lib.hid hsf
  have HRX := Lib.hid hrx
  clear hX hY hZ hsx hsy hsz hsf hrx
  go_wp2_with fail
  go_loopw [12, 13, 14, 15, 30] (fun m12 m13 m14 wi i wr => ∃ j : Nat, j ≤ 32 ∧ i = .int .i64 j ∧ wi = .bool (upTo Z j).isEmpty ∧ Hid (St3 W0 wr m12 (upTo X j) m13 (upTo Y j) m14 (upTo Z j))) (fun _ _ _ _ i _ => 32 - (intOf i).toNat)
  case atStart => exact ⟨0, Nat.zero_le _, rfl, rfl, Lib.hid ⟨World.ownsRow_nil _ _ _ _, World.ownsRow_nil _ _ _ _, World.ownsRow_nil _ _ _ _, by simp [Value.ownBlock], by simp [Value.ownBlock], by simp [Value.ownBlock], Below.refl _ _⟩⟩
  case round =>
    obtain ⟨j, hj, rfl, rfl, HS⟩ := hrel
    by_cases hlt : j < 32
    · have hIx := HIx.out wr HS.out.h j hlt
      have hIy := HIy.out wr HS.out.h j hlt
      have hIz := HIz.out wr HS.out.h j hlt
      have hbx := HBX.out j
      have hby := HBY.out j
      have hbz := HBZ.out j hlt
      have ej : (j : Int) < 32 := by omega
      cases hp : a.testBit j with
      | true =>
        cases hq : b.testBit j with
        | true =>
          cases hr : c.testBit j with
          | true =>
            have htX := upTo_hit (m := X) (i := j) (by rw [hbx, hp, hq, hr]; rfl)
            have htY := upTo_hit (m := Y) (i := j) (by rw [hby, hp, hq, hr]; rfl)
            have htZ := upTo_miss (m := Z) (i := j) (by rw [hbz, hp, hq]; rfl)
            have HTX := Lib.hid htX
            have HTY := Lib.hid htY
            have HTZ := Lib.hid htZ
            rw [hp] at hIx
            rw [hq] at hIy
            rw [hr] at hIz
            clear htX htY htZ hbx hby hbz hp hq hr
            go_wp2_with fail
            refine hIx.mono ?_
            rintro e wr ⟨rfl, rfl⟩
            go_wp2_with fail
            refine hIy.mono ?_
            rintro e wr ⟨rfl, rfl⟩
            go_wp2_with fail
            refine hIz.mono ?_
            rintro e wr ⟨rfl, rfl⟩
            go_wp2_with (first | (at_builtin; (refine wpList_appI (by rfl) (.tmp 49) (.tmp 51) rfl W0.heap.size _ (upTo X j) rfl (World.ownsRow.alloc HS.out.r1 _) _ (some ⟨_, 0, none⟩) 1 1 [(j : Int)] rfl (Sl.one_new _ _ _) rfl (by have := upTo_len X j; omega) (by have := HS.out.h.size; simp; omega) ?_); intro v1 w1 hrow hmod hown; have HS := Lib.hid (HS.out.app1 hrow hmod hown); clear hrow hmod hown) | (at_builtin; (refine wpList_appI (by rfl) (.tmp 60) (.tmp 62) rfl W0.heap.size _ (upTo Y j) rfl (World.ownsRow.alloc HS.out.r2 _) _ (some ⟨_, 0, none⟩) 1 1 [(j : Int)] rfl (Sl.one_new _ _ _) rfl (by have := upTo_len Y j; omega) (by have := HS.out.h.size; simp; omega) ?_); intro v2 w1 hrow hmod hown; have HS := Lib.hid (HS.out.app2 hrow hmod hown); clear hrow hmod hown))
            go_roundw
            case rel => exact ⟨j + 1, by omega, by go_num, by rw [HTZ.out], Lib.hid (HS.out.cast HTX.out.symm HTY.out.symm HTZ.out.symm)⟩
            case measure => simp [intOf]; omega
          | false =>
            have htX := upTo_miss (m := X) (i := j) (by rw [hbx, hp, hq, hr]; rfl)
            have htY := upTo_hit (m := Y) (i := j) (by rw [hby, hp, hq, hr]; rfl)
            have htZ := upTo_miss (m := Z) (i := j) (by rw [hbz, hp, hq]; rfl)
            have HTX := Lib.hid htX
            have HTY := Lib.hid htY
            have HTZ := Lib.hid htZ
            rw [hp] at hIx
            rw [hq] at hIy
            rw [hr] at hIz
            clear htX htY htZ hbx hby hbz hp hq hr
            go_wp2_with fail
            refine hIx.mono ?_
            rintro e wr ⟨rfl, rfl⟩
            go_wp2_with fail
            refine hIy.mono ?_
            rintro e wr ⟨rfl, rfl⟩
            go_wp2_with fail
            refine hIz.mono ?_
            rintro e wr ⟨rfl, rfl⟩
            go_wp2_with (at_builtin; (refine wpList_appI (by rfl) (.tmp 60) (.tmp 62) rfl W0.heap.size _ (upTo Y j) rfl (World.ownsRow.alloc HS.out.r2 _) _ (some ⟨_, 0, none⟩) 1 1 [(j : Int)] rfl (Sl.one_new _ _ _) rfl (by have := upTo_len Y j; omega) (by have := HS.out.h.size; simp; omega) ?_); intro v2 w1 hrow hmod hown; have HS := Lib.hid (HS.out.app2 hrow hmod hown); clear hrow hmod hown)
            go_roundw
            case rel => exact ⟨j + 1, by omega, by go_num, by rw [HTZ.out], Lib.hid (HS.out.cast HTX.out.symm HTY.out.symm HTZ.out.symm)⟩
            case measure => simp [intOf]; omega
        | false =>
          cases hr : c.testBit j with
          | true =>
            have htX := upTo_miss (m := X) (i := j) (by rw [hbx, hp, hq, hr]; rfl)
            have htY := upTo_hit (m := Y) (i := j) (by rw [hby, hp, hq, hr]; rfl)
            have htZ := upTo_hit (m := Z) (i := j) (by rw [hbz, hp, hq]; rfl)
            have HTX := Lib.hid htX
            have HTY := Lib.hid htY
            have HTZ := Lib.hid htZ
            rw [hp] at hIx
            rw [hq] at hIy
            rw [hr] at hIz
            clear htX htY htZ hbx hby hbz hp hq hr
            go_wp2_with fail
            refine hIx.mono ?_
            rintro e wr ⟨rfl, rfl⟩
            go_wp2_with fail
            refine hIy.mono ?_
            rintro e wr ⟨rfl, rfl⟩
            go_wp2_with fail
            refine hIz.mono ?_
            rintro e wr ⟨rfl, rfl⟩
            go_wp2_with (first | (at_builtin; (refine wpList_appI (by rfl) (.tmp 60) (.tmp 62) rfl W0.heap.size _ (upTo Y j) rfl (World.ownsRow.alloc HS.out.r2 _) _ (some ⟨_, 0, none⟩) 1 1 [(j : Int)] rfl (Sl.one_new _ _ _) rfl (by have := upTo_len Y j; omega) (by have := HS.out.h.size; simp; omega) ?_); intro v2 w1 hrow hmod hown; have HS := Lib.hid (HS.out.app2 hrow hmod hown); clear hrow hmod hown) | (at_builtin; (refine wpList_appI (by rfl) (.tmp 69) (.tmp 71) rfl W0.heap.size _ (upTo Z j) rfl (World.ownsRow.alloc HS.out.r3 _) _ (some ⟨_, 0, none⟩) 1 1 [(j : Int)] rfl (Sl.one_new _ _ _) rfl (by have := upTo_len Z j; omega) (by have := HS.out.h.size; simp; omega) ?_); intro v3 w1 hrow hmod hown; have HS := Lib.hid (HS.out.app3 hrow hmod hown); clear hrow hmod hown))
            go_roundw
            case rel => exact ⟨j + 1, by omega, by go_num, by rw [HTZ.out]; simp, Lib.hid (HS.out.cast HTX.out.symm HTY.out.symm HTZ.out.symm)⟩
            case measure => simp [intOf]; omega
          | false =>
            have htX := upTo_miss (m := X) (i := j) (by rw [hbx, hp, hq, hr]; rfl)
            have htY := upTo_hit (m := Y) (i := j) (by rw [hby, hp, hq, hr]; rfl)
            have htZ := upTo_hit (m := Z) (i := j) (by rw [hbz, hp, hq]; rfl)
            have HTX := Lib.hid htX
            have HTY := Lib.hid htY
            have HTZ := Lib.hid htZ
            rw [hp] at hIx
            rw [hq] at hIy
            rw [hr] at hIz
            clear htX htY htZ hbx hby hbz hp hq hr
            go_wp2_with fail
            refine hIx.mono ?_
            rintro e wr ⟨rfl, rfl⟩
            go_wp2_with fail
            refine hIy.mono ?_
            rintro e wr ⟨rfl, rfl⟩
            go_wp2_with fail
            refine hIz.mono ?_
            rintro e wr ⟨rfl, rfl⟩
            go_wp2_with (first | (at_builtin; (refine wpList_appI (by rfl) (.tmp 60) (.tmp 62) rfl W0.heap.size _ (upTo Y j) rfl (World.ownsRow.alloc HS.out.r2 _) _ (some ⟨_, 0, none⟩) 1 1 [(j : Int)] rfl (Sl.one_new _ _ _) rfl (by have := upTo_len Y j; omega) (by have := HS.out.h.size; simp; omega) ?_); intro v2 w1 hrow hmod hown; have HS := Lib.hid (HS.out.app2 hrow hmod hown); clear hrow hmod hown) | (at_builtin; (refine wpList_appI (by rfl) (.tmp 69) (.tmp 71) rfl W0.heap.size _ (upTo Z j) rfl (World.ownsRow.alloc HS.out.r3 _) _ (some ⟨_, 0, none⟩) 1 1 [(j : Int)] rfl (Sl.one_new _ _ _) rfl (by have := upTo_len Z j; omega) (by have := HS.out.h.size; simp; omega) ?_); intro v3 w1 hrow hmod hown; have HS := Lib.hid (HS.out.app3 hrow hmod hown); clear hrow hmod hown))
            go_roundw
            case rel => exact ⟨j + 1, by omega, by go_num, by rw [HTZ.out]; simp, Lib.hid (HS.out.cast HTX.out.symm HTY.out.symm HTZ.out.symm)⟩
            case measure => simp [intOf]; omega
      | false =>
        cases hq : b.testBit j with
        | true =>
          cases hr : c.testBit j with
          | true =>
            have htX := upTo_miss (m := X) (i := j) (by rw [hbx, hp, hq, hr]; rfl)
            have htY := upTo_hit (m := Y) (i := j) (by rw [hby, hp, hq, hr]; rfl)
            have htZ := upTo_miss (m := Z) (i := j) (by rw [hbz, hp, hq]; rfl)
            have HTX := Lib.hid htX
            have HTY := Lib.hid htY
            have HTZ := Lib.hid htZ
            rw [hp] at hIx
            rw [hq] at hIy
            rw [hr] at hIz
            clear htX htY htZ hbx hby hbz hp hq hr
            go_wp2_with fail
            refine hIx.mono ?_
            rintro e wr ⟨rfl, rfl⟩
            go_wp2_with fail
            refine hIy.mono ?_
            rintro e wr ⟨rfl, rfl⟩
            go_wp2_with fail
            refine hIz.mono ?_
            rintro e wr ⟨rfl, rfl⟩
            go_wp2_with (at_builtin; (refine wpList_appI (by rfl) (.tmp 60) (.tmp 62) rfl W0.heap.size _ (upTo Y j) rfl (World.ownsRow.alloc HS.out.r2 _) _ (some ⟨_, 0, none⟩) 1 1 [(j : Int)] rfl (Sl.one_new _ _ _) rfl (by have := upTo_len Y j; omega) (by have := HS.out.h.size; simp; omega) ?_); intro v2 w1 hrow hmod hown; have HS := Lib.hid (HS.out.app2 hrow hmod hown); clear hrow hmod hown)
            go_roundw
            case rel => exact ⟨j + 1, by omega, by go_num, by rw [HTZ.out], Lib.hid (HS.out.cast HTX.out.symm HTY.out.symm HTZ.out.symm)⟩
            case measure => simp [intOf]; omega
          | false =>
            have htX := upTo_miss (m := X) (i := j) (by rw [hbx, hp, hq, hr]; rfl)
            have htY := upTo_hit (m := Y) (i := j) (by rw [hby, hp, hq, hr]; rfl)
            have htZ := upTo_miss (m := Z) (i := j) (by rw [hbz, hp, hq]; rfl)
            have HTX := Lib.hid htX
            have HTY := Lib.hid htY
            have HTZ := Lib.hid htZ
            rw [hp] at hIx
            rw [hq] at hIy
            rw [hr] at hIz
            clear htX htY htZ hbx hby hbz hp hq hr
            go_wp2_with fail
            refine hIx.mono ?_
            rintro e wr ⟨rfl, rfl⟩
            go_wp2_with fail
            refine hIy.mono ?_
            rintro e wr ⟨rfl, rfl⟩
            go_wp2_with fail
            refine hIz.mono ?_
            rintro e wr ⟨rfl, rfl⟩
            go_wp2_with (at_builtin; (refine wpList_appI (by rfl) (.tmp 60) (.tmp 62) rfl W0.heap.size _ (upTo Y j) rfl (World.ownsRow.alloc HS.out.r2 _) _ (some ⟨_, 0, none⟩) 1 1 [(j : Int)] rfl (Sl.one_new _ _ _) rfl (by have := upTo_len Y j; omega) (by have := HS.out.h.size; simp; omega) ?_); intro v2 w1 hrow hmod hown; have HS := Lib.hid (HS.out.app2 hrow hmod hown); clear hrow hmod hown)
            go_roundw
            case rel => exact ⟨j + 1, by omega, by go_num, by rw [HTZ.out], Lib.hid (HS.out.cast HTX.out.symm HTY.out.symm HTZ.out.symm)⟩
            case measure => simp [intOf]; omega
        | false =>
          cases hr : c.testBit j with
          | true =>
            have htX := upTo_miss (m := X) (i := j) (by rw [hbx, hp, hq, hr]; rfl)
            have htY := upTo_hit (m := Y) (i := j) (by rw [hby, hp, hq, hr]; rfl)
            have htZ := upTo_miss (m := Z) (i := j) (by rw [hbz, hp, hq]; rfl)
            have HTX := Lib.hid htX
            have HTY := Lib.hid htY
            have HTZ := Lib.hid htZ
            rw [hp] at hIx
            rw [hq] at hIy
            rw [hr] at hIz
            clear htX htY htZ hbx hby hbz hp hq hr
            go_wp2_with fail
            refine hIx.mono ?_
            rintro e wr ⟨rfl, rfl⟩
            go_wp2_with fail
            refine hIy.mono ?_
            rintro e wr ⟨rfl, rfl⟩
            go_wp2_with fail
            refine hIz.mono ?_
            rintro e wr ⟨rfl, rfl⟩
            go_wp2_with (at_builtin; (refine wpList_appI (by rfl) (.tmp 60) (.tmp 62) rfl W0.heap.size _ (upTo Y j) rfl (World.ownsRow.alloc HS.out.r2 _) _ (some ⟨_, 0, none⟩) 1 1 [(j : Int)] rfl (Sl.one_new _ _ _) rfl (by have := upTo_len Y j; omega) (by have := HS.out.h.size; simp; omega) ?_); intro v2 w1 hrow hmod hown; have HS := Lib.hid (HS.out.app2 hrow hmod hown); clear hrow hmod hown)
            go_roundw
            case rel => exact ⟨j + 1, by omega, by go_num, by rw [HTZ.out], Lib.hid (HS.out.cast HTX.out.symm HTY.out.symm HTZ.out.symm)⟩
            case measure => simp [intOf]; omega
          | false =>
            have htX := upTo_miss (m := X) (i := j) (by rw [hbx, hp, hq, hr]; rfl)
            have htY := upTo_miss (m := Y) (i := j) (by rw [hby, hp, hq, hr]; rfl)
            have htZ := upTo_miss (m := Z) (i := j) (by rw [hbz, hp, hq]; rfl)
            have HTX := Lib.hid htX
            have HTY := Lib.hid htY
            have HTZ := Lib.hid htZ
            rw [hp] at hIx
            rw [hq] at hIy
            rw [hr] at hIz
            clear htX htY htZ hbx hby hbz hp hq hr
            go_wp2_with fail
            refine hIx.mono ?_
            rintro e wr ⟨rfl, rfl⟩
            go_wp2_with fail
            refine hIy.mono ?_
            rintro e wr ⟨rfl, rfl⟩
            go_wp2_with fail
            refine hIz.mono ?_
            rintro e wr ⟨rfl, rfl⟩
            go_wp2_with fail
            go_roundw
            case rel => exact ⟨j + 1, by omega, by go_num, by rw [HTZ.out], Lib.hid (HS.out.cast HTX.out.symm HTY.out.symm HTZ.out.symm)⟩
            case measure => simp [intOf]; omega
    · obtain rfl : j = 32 := by omega
      have hS := HS.out
      obtain ⟨A1, c1, b1, rfl, _, _, hs1⟩ := own_sl hS.r1
      obtain ⟨A2, c2, b2, rfl, _, _, hs2⟩ := own_sl hS.r2
      obtain ⟨A3, c3, b3, rfl, _, _, hs3⟩ := own_sl hS.r3
      have hXl : X < 4294967296 := by rw [HX.out]; exact Nat.lt_of_le_of_lt Nat.and_le_left (Nat.lt_of_le_of_lt Nat.and_le_left ha)
      have hYl : Y < 4294967296 := by rw [HY.out]; exact Nat.or_lt_two_pow (n := 32) (Nat.or_lt_two_pow (n := 32) ha hbl) hcl
      have hZl : Z < 4294967296 := by rw [HZ.out]; exact lessN_lt b ha
      have hMe := fun (W : World) => MMeet_calls a (some ⟨W.heap.size, 0, none⟩) [b, c] 2 2 W.heap.size (W.alloc (.cells #[.int .u32 (b : Int), .int .u32 (c : Int)] 26)) ha (by simp; omega) (Sl.cells_new W _ _) rfl (by omega)
      rw [show meetN a [b, c] = X from HX.out.symm] at hMe
      have hJo := fun (W : World) => MJoin_calls a (some ⟨W.heap.size, 0, none⟩) [b, c] 2 2 W.heap.size (W.alloc (.cells #[.int .u32 (b : Int), .int .u32 (c : Int)] 26)) ha (by simp; omega) (Sl.cells_new W _ _) rfl (by omega)
      rw [show joinN a [b, c] = Y from HY.out.symm] at hJo
      have hLe := fun W => MLess_calls a b W ha hbl
      have hWi := fun W => MWithin_calls a b W ha hbl
      rw [← HZ.out] at hLe hWi
      have hWX := fun W h => RefWord_calls A1 (upTo X 32) _ c1 b1 W h rfl (by have := upTo_len X 32; omega)
      have hWY := fun W h => RefWord_calls A2 (upTo Y 32) _ c2 b2 W h rfl (by have := upTo_len Y 32; omega)
      have hWZ := fun W h => RefWord_calls A3 (upTo Z 32) _ c3 b3 W h rfl (by have := upTo_len Z 32; omega)
      rw [word_up hXl] at hWX
      rw [word_up hYl] at hWY
      rw [word_up hZl] at hWZ
      have hWf := fun W h => With_calls a Af lf _ cf bf W ha h rfl (by omega)
      have hMn := fun W => MMeet_calls a none [] 0 0 0 W ha (by simp) (Sl.nil_ _ _ _) rfl (by omega)
      have hJn := fun W => MJoin_calls a none [] 0 0 0 W ha (by simp) (Sl.nil_ _ _ _) rfl (by omega)
      rw [show meetN a [] = a from rfl] at hMn
      rw [show joinN a [] = a from rfl] at hJn
      have hL0 := fun W => MLess_calls a 0 W ha (by omega)
      rw [less_none ha] at hL0
      obtain ⟨t, ht⟩ : ∃ t, t = decide (Z = 0) := ⟨_, rfl⟩
      have hw15 : (upTo Z 32).isEmpty = t := by rw [ht]; exact up_empty hZl
      rw [hw15]
      rw [← ht] at hWi
      obtain ⟨WL, hWL⟩ : ∃ WL, WL = withN a lf := ⟨_, rfl⟩
      rw [← hWL] at hWf
      have HWL := Lib.hid (show withN 0 (upTo a 32 ++ lf) = WL by rw [hWL]; exact word_app ha lf)
      have hb8 := hb.trans (hS.h.mono hb.size)
      have hsf := Sl.ext HSF.out hS.h
      have hrx := own_ext HRX.out hS.h
      have hz0 : w2.heap.size ≤ wr.heap.size := by have := hS.h.size; omega
      have hual := upTo_len a 32
      clear ht hw15 hWL hS HS HBX HBY HBZ HX HY HZ HIx HIy HIz HSX ha hbl hcl hXl hYl hZl
      go_wp2_with fail
      refine (hMe wr).mono ?_
      rintro e w5 ⟨rfl, rfl⟩
      go_wp2_with fail
      refine (hWX _ (Sl.alloc hs1 _)).mono ?_
      rintro e w5 ⟨rfl, rfl⟩
      have hx5 := hJo (wr.alloc (.cells #[.int .u32 (b : Int), .int .u32 (c : Int)] 26))
      simp only [World.size_alloc] at hx5
      go_wp2_with fail
      refine hx5.mono ?_
      rintro e w5 ⟨rfl, rfl⟩
      go_wp2_with fail
      refine (hWY _ (Sl.alloc (Sl.alloc hs2 _) _)).mono ?_
      rintro e w5 ⟨rfl, rfl⟩
      go_wp2_with fail
      refine (hLe _).mono ?_
      rintro e w5 ⟨rfl, rfl⟩
      go_wp2_with fail
      refine (hWZ _ (Sl.alloc (Sl.alloc hs3 _) _)).mono ?_
      rintro e w5 ⟨rfl, rfl⟩
      go_wp2_with fail
      refine (hWi _).mono ?_
      rintro e w5 ⟨rfl, rfl⟩
      go_wp2_with fail
      refine (hWf _ (Sl.alloc (Sl.alloc hsf _) _)).mono ?_
      rintro e w5 ⟨rfl, rfl⟩
      have hb9 := (hb8.alloc hb8.size (.cells #[.int .u32 (b : Int), .int .u32 (c : Int)] 26))
      have hb9 := hb9.alloc hb9.size (.cells #[.int .u32 (b : Int), .int .u32 (c : Int)] 26)
      have hrx2 := World.ownsRow.alloc (World.ownsRow.alloc hrx (.cells #[.int .u32 (b : Int), .int .u32 (c : Int)] 26)) (.cells #[.int .u32 (b : Int), .int .u32 (c : Int)] 26)
      have hsf2 := Sl.alloc (Sl.alloc hsf (.cells #[.int .u32 (b : Int), .int .u32 (c : Int)] 26)) (.cells #[.int .u32 (b : Int), .int .u32 (c : Int)] 26)
      go_wp2_with (at_builtin; (refine wpList_appI ?hw (.tmp 111) (.tmp 112) rfl w2.heap.size _ (upTo a 32) rfl hrx2 bf Af _ cf lf rfl hsf2 rfl (by omega) (by simp; omega) ?_; (case hw => (simp [Region.wanted, yielded]))); intro v9 w9 hrow hmod hown; obtain ⟨A9, c9, b9, rfl, _, _, hs9⟩ := own_sl hrow; have hb9 := hb9.trans (hmod.below hb9.size (fun i hi h => by have := (World.ownsRow.lt hrx2 i h).1; omega)))
      have hW9 := RefWord_calls A9 (upTo a 32 ++ lf) ((upTo a 32).length + lf.length) c9 b9 w9 hs9 List.length_append (by omega)
      rw [HWL.out] at hW9
      refine hW9.mono ?_
      rintro e w10 ⟨rfl, rfl⟩
      go_wp2_with fail
      refine (hMn _).mono ?_
      rintro e w11 ⟨rfl, rfl⟩
      go_wp2_with fail
      refine (hJn _).mono ?_
      rintro e w12 ⟨rfl, rfl⟩
      go_wp2_with fail
      refine (hL0 _).mono ?_
      rintro e w13 ⟨rfl, rfl⟩
      go_wp2_with fail
      go_ret
      exact ⟨rfl, by first | exact hb9 | exact below_drew hb9 | exact below_drewN hb9 _⟩

end Go.Proofs.YtbbabmiacmmkpaaDoor
