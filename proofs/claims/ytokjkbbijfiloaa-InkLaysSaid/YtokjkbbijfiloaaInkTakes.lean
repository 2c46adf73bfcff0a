/- InkTakes: for every p and l the Go text returns true: of any bytes, asked for any fields, just the document's are told. No condition. -/
import Derived.Test.YtokjkbbijfiloaaRefTake4
import Derived.Test.YtokjkbbijfiloaaLike
import Derived.Test.YtokjkbbijfiloaaAwake
namespace Go.Proofs.Ytokjkbbijfiloaa
open Go.RowKit

theorem takeF_nil (f : Fld) : takeF [] f = none := by
  have hk5 : f.kind % 5 = 0 ∨ f.kind % 5 = 1 ∨ f.kind % 5 = 2 ∨ f.kind % 5 = 3 ∨ f.kind % 5 = 4 := by omega
  unfold takeF
  rcases hk5 with h | h | h | h | h <;> simp [h, rd, rdBlob]
theorem told_none {l : List UInt8} {f : Fld} (h : takeF l f = none) : toldF l f = ⟨f.kind, 0, [], f.most⟩ ∧ leftF l f = [] ∧ ∀ bad, badF l bad f = true := by
  unfold toldF leftF badF
  rw [h]
  exact ⟨rfl, rfl, fun _ => rfl⟩
theorem told_some {l r : List UInt8} {f y : Fld} (h : takeF l f = some (y, r)) : toldF l f = y ∧ leftF l f = r ∧ ∀ bad, badF l bad f = bad := by
  unfold toldF leftF badF
  rw [h]
  exact ⟨rfl, rfl, fun _ => rfl⟩

set_option maxHeartbeats 4000000 in
set_option maxRecDepth 20000 in
theorem InkTakes_walk (A0 : Option Addr) (l0 : List UInt8) (n0 c0 b0 : Nat) (A1 : Option Addr) (fs1 : List FV) (n1 c1 b1 : Nat) (w : World) (hs0 : Bs w b0 A0 l0) (hl0 : l0.length = n0) (hm0 : n0 ≤ maxLen)
    (hs1 : FldsIn w b1 A1 fs1) (hl1 : fs1.length = n1) (hm1 : n1 ≤ maxLen) :
    Calls Try.prog 4 #[.slice A0 n0 c0, .slice A1 n1 c1] w fun e w' => e = .returned (.bool true) ∧ Below w.heap.size w w' := by
  have H0 := Lib.hid hl0
  have H1 := Lib.hid hl1
  have M0 := Lib.hid hm0
  have M1 := Lib.hid hm1
  clear hl0 hl1 hm0 hm1
  go_enter Try.func4, Try.ntmps4
  go_wp2_with fail
  refine (awake_calls _).mono ?_
  rintro e w1 ⟨rfl, hb1⟩
  go_wp2_with fail
  refine (Cut_calls A0 l0 n0 c0 b0 60 _ (Sl.ext hs0 hb1) H0.out M0.out (by simp; omega)).mono ?_
  rintro e w2 ⟨v2, rfl, r2, hb2⟩
  obtain ⟨p, hp⟩ : ∃ p, p = l0.take (60 : Int).toNat := ⟨_, rfl⟩
  rw [← hp] at r2
  have hp60 : p.length ≤ 60 := by rw [hp]; simp; omega
  clear hp hs0
  obtain ⟨A2, c2, b2, rfl, hpc2, hcm2, _, _, s2, _⟩ := r2.sl
  have hs1' := (hs1.ext hb1).ext hb2
  have hb3 : Below w.heap.size w w2 := hb1.trans (hb2.mono hb1.size)
  clear hb1 hb2 r2 hs1
  go_wp2_with fail
  refine (few_calls A1 fs1 n1 c1 b1 _ hs1' H1.out M1.out).mono ?_
  rintro e w3 ⟨v, ys, rfl, hm, hr, hin, hb4⟩
  obtain ⟨Ay, cy, by_, rfl, sy⟩ := Short.of_few hm hr hin
  have hmost := Lib.hid (few_most hm)
  have s3 := Sl.ext s2 hb4
  have hb5 := hb3.trans (hb4.mono hb3.size)
  clear hm hr hin hb3 hb4 hs1' s2
  go_wp2_with fail
  refine (Read_calls _ _ _ _ _ _ s3 rfl (by omega)).mono ?_
  rintro e w4 ⟨ge, be, rfl, he, hge, hbe, hb6⟩
  have s4 := Sl.ext s3 hb6
  have hb7 := hb5.trans (hb6.mono hb5.size)
  have hw3 : w.heap.size ≤ w3.heap.size := hb5.size
  have hw4 : w3.heap.size ≤ w4.heap.size := hb6.size
  have HB6 := Lib.hid hb6
  have hgl := he.lt
  have hbl : p ≠ [] → be < w4.heap.size := by obtain ⟨_, A', c', _, _, _, hs⟩ := he; exact Bs.lt hs
  have hs3lt := Bs.lt s3
  clear s3
  clear hb5 hb6
  have hx4 : w3.heap.size ≤ w4.heap.size := hw4
  have hcm4 : c2 ≤ maxLen := hcm2
  have hylen := sy.2.1
  have hpc : p.length ≤ c2 := hpc2
  go_wp2_with fail
  go_loopw [0, 6, 25] (fun pv okv i wr => ∃ (k : Nat) (AP : Option Addr) (cP bp : Nat) (pl : List UInt8) (okb : Bool), k ≤ ys.length ∧ i = .int .i64 k ∧ pv = .slice AP pl.length cP ∧ okv = .bool okb ∧ Bs wr bp AP pl ∧ pl.length ≤ cP ∧ cP ≤ 9223372036854775807 ∧ EyeAt wr ge be pl (!okb) ∧ Hid (okb = false → pl = []) ∧ pl.length ≤ 60 ∧
      Hid (pl ≠ [] → bp < w3.heap.size) ∧ Hid (pl ≠ [] → p ≠ []) ∧ Mod (fun i => i = ge) w4 wr) (fun _ _ i _ => ys.length - (intOf i).toNat)
  case atStart => exact ⟨0, A2, c2, b2, p, true, Nat.zero_le _, rfl, rfl, rfl, s4, hpc, by unfold maxLen at hcm4; omega, he, Lib.hid (by simp), hp60, Lib.hid hs3lt, Lib.hid (fun h => h), Mod.refl _ _⟩
  case round =>
    obtain ⟨k, AP, cP, bp, pl, okb, hk, rfl, rfl, rfl, qp, hpc1, hpc2', qe, hnil, hpl60, hbp, hpne, hmod⟩ := hrel
    have hbr : Below w3.heap.size w3 wr := HB6.out.trans (hmod.below hw4 (fun i hi h => by omega))
    by_cases hlt : k < ys.length
    · have syr := sy.ext hbr
      obtain ⟨oy, rfl, d0, d1, d2, d3⟩ := syr.1.at_ hlt
      obtain ⟨y, hy⟩ : ∃ y, y = ys[k] := ⟨_, rfl⟩
      rw [← hy] at d0 d1 d2 d3
      have hyok : y.f.Ok := (syr.1.2 y (by rw [hy]; exact List.getElem_mem hlt)).2.1
      have hymo : y.f.kind % 5 = 4 → y.f.most ≤ 9223372036854775807 := fun h => by have := hmost.out y (by rw [hy]; exact List.getElem_mem hlt) h; omega
      have hxw : Below wr.heap.size wr (wr.alloc (.cells #[.int .u8 (y.f.kind : Int), .int .u64 (y.f.n : Int), .slice y.A y.f.b.length y.c, .int .u64 (y.f.most : Int)] 30)) := (Below.refl _ _).alloc (Nat.le_refl _) _
      have hbx0 := heap_alloc_new wr (.cells #[.int .u8 (y.f.kind : Int), .int .u64 (y.f.n : Int), .slice y.A y.f.b.length y.c, .int .u64 (y.f.most : Int)] 30)
      have HB0 := Lib.hid hbx0
      have hsz0 : (wr.alloc (.cells #[.int .u8 (y.f.kind : Int), .int .u64 (y.f.n : Int), .slice y.A y.f.b.length y.c, .int .u64 (y.f.most : Int)] 30)).heap.size = wr.heap.size + 1 := by simp
      have HSZ := Lib.hid hsz0
      have HY1 := Lib.hid hyok
      have HY2 := Lib.hid hymo
      have hger := qe.lt
      clear hy syr hsz0 hyok hymo hbr hbx0
      go_wp2_with fail
      refine (take_calls ge be pl (!okb) y.f y.A y.c _ (qe.ext hxw) HY1.out HY2.out).mono ?_
      rintro e w5 ⟨A', c', rfl, st, he5, hm5⟩
      have hto := told_ok pl HY1.out
      have hbx5 := (hm5.block wr.heap.size (by rw [HSZ.out]; omega) (by omega)).trans HB0.out
      obtain ⟨x0, x1, x2, x3⟩ := box_cells hbx5
      have hsz5 : wr.heap.size + 1 ≤ w5.heap.size := by rw [← HSZ.out]; exact hm5.size
      have qp5 : Bs w5 bp AP pl := Bs.modne (Sl.ext qp hxw) hm5 (fun h => by have := hbp.out h; omega)
      have hmod5 : Mod (fun i => i = ge) w4 w5 := hmod.trans ((Mod.of_below hxw).trans hm5 (S := fun i => i = ge ∨ wr.heap.size ≤ i) (fun i _ h => .inr h) (fun i _ h => .inl h)) (fun i _ h => h) (fun i hi h => by have := hmod.size; omega)
      have hleft := leftF_len pl y.f
      have hw45 : w4.heap.size ≤ w5.heap.size := hmod5.size
      obtain ⟨t, ht⟩ : ∃ t, t = toldF pl y.f := ⟨_, rfl⟩
      have HT := Lib.hid ht
      rw [← ht] at st hto ⊢
      clear qe hxw hm5 d0 d1 d2 d3 HB0 hbx5 ht qp hmod
      obtain ⟨tk, tn, tb, tm⟩ := t
      obtain ⟨htok, hk1, hk2, htb⟩ := hto
      simp only at hk1 hk2 htb st
      subst hk1
      subst hk2
      clear htok
      have y0 := cell_alloc (o := (.cells #[.int .u8 0, .int .u64 0, .slice none 0 0, .int .u64 0] 30)) (cell_alloc (o := (.cells #[.int .u8 (y.f.kind : Int), .int .u64 (tn : Int), .slice A' tb.length c', .int .u64 (y.f.most : Int)] 30)) x0)
      have y1 := cell_alloc (o := (.cells #[.int .u8 0, .int .u64 0, .slice none 0 0, .int .u64 0] 30)) (cell_alloc (o := (.cells #[.int .u8 (y.f.kind : Int), .int .u64 (tn : Int), .slice A' tb.length c', .int .u64 (y.f.most : Int)] 30)) x1)
      have y2 := cell_alloc (o := (.cells #[.int .u8 0, .int .u64 0, .slice none 0 0, .int .u64 0] 30)) (cell_alloc (o := (.cells #[.int .u8 (y.f.kind : Int), .int .u64 (tn : Int), .slice A' tb.length c', .int .u64 (y.f.most : Int)] 30)) x2)
      have y3 := cell_alloc (o := (.cells #[.int .u8 0, .int .u64 0, .slice none 0 0, .int .u64 0] 30)) (cell_alloc (o := (.cells #[.int .u8 (y.f.kind : Int), .int .u64 (tn : Int), .slice A' tb.length c', .int .u64 (y.f.most : Int)] 30)) x3)
      have hx7 : Below w5.heap.size w5 ((w5.alloc (.cells #[.int .u8 (y.f.kind : Int), .int .u64 (tn : Int), .slice A' tb.length c', .int .u64 (y.f.most : Int)] 30)).alloc (.cells #[.int .u8 0, .int .u64 0, .slice none 0 0, .int .u64 0] 30)) := ((Below.refl _ _).alloc (Nat.le_refl _) _).alloc (by simp) _
      have hX7 : ((w5.alloc (.cells #[.int .u8 (y.f.kind : Int), .int .u64 (tn : Int), .slice A' tb.length c', .int .u64 (y.f.most : Int)] 30)).alloc (.cells #[.int .u8 0, .int .u64 0, .slice none 0 0, .int .u64 0] 30)).heap[w5.heap.size]? = some (.cells #[.int .u8 (y.f.kind : Int), .int .u64 (tn : Int), .slice A' tb.length c', .int .u64 (y.f.most : Int)] 30) := (Below.heap_alloc _ _ _ (by simp)).trans (heap_alloc_new w5 _)
      have hZ7 : ((w5.alloc (.cells #[.int .u8 (y.f.kind : Int), .int .u64 (tn : Int), .slice A' tb.length c', .int .u64 (y.f.most : Int)] 30)).alloc (.cells #[.int .u8 0, .int .u64 0, .slice none 0 0, .int .u64 0] 30)).heap[w5.heap.size + 1]? = some (.cells #[.int .u8 0, .int .u64 0, .slice none 0 0, .int .u64 0] 30) := by simpa using heap_alloc_new (w5.alloc (.cells #[.int .u8 (y.f.kind : Int), .int .u64 (tn : Int), .slice A' tb.length c', .int .u64 (y.f.most : Int)] 30)) (.cells #[.int .u8 0, .int .u64 0, .slice none 0 0, .int .u64 0] 30)
      have hsz7 : ((w5.alloc (.cells #[.int .u8 (y.f.kind : Int), .int .u64 (tn : Int), .slice A' tb.length c', .int .u64 (y.f.most : Int)] 30)).alloc (.cells #[.int .u8 0, .int .u64 0, .slice none 0 0, .int .u64 0] 30)).heap.size = w5.heap.size + 2 := by simp
      have HX7 := Lib.hid hX7
      have HZ7 := Lib.hid hZ7
      have HS7 := Lib.hid hsz7
      have qp7 : Bs ((w5.alloc (.cells #[.int .u8 (y.f.kind : Int), .int .u64 (tn : Int), .slice A' tb.length c', .int .u64 (y.f.most : Int)] 30)).alloc (.cells #[.int .u8 0, .int .u64 0, .slice none 0 0, .int .u64 0] 30)) bp AP pl := Sl.ext qp5 hx7
      have st7 : Bs ((w5.alloc (.cells #[.int .u8 (y.f.kind : Int), .int .u64 (tn : Int), .slice A' tb.length c', .int .u64 (y.f.most : Int)] 30)).alloc (.cells #[.int .u8 0, .int .u64 0, .slice none 0 0, .int .u64 0] 30)) be A' tb := Sl.ext st hx7
      have he7 := he5.ext hx7
      have hmod7 : Mod (fun i => i = ge) w4 ((w5.alloc (.cells #[.int .u8 (y.f.kind : Int), .int .u64 (tn : Int), .slice A' tb.length c', .int .u64 (y.f.most : Int)] 30)).alloc (.cells #[.int .u8 0, .int .u64 0, .slice none 0 0, .int .u64 0] 30)) := hmod5.trans (Mod.of_below hx7) (fun i _ h => h) (fun i hi h => by have := hmod5.size; omega)
      have htne := Lib.hid (show tb ≠ [] → pl ≠ [] from fun h h0 => h (by rw [h0] at htb; exact List.eq_nil_of_length_eq_zero (by simpa using htb)))
      clear x0 x1 x2 x3 hX7 hZ7 hsz7 qp5 st he5 hmod5 hx7
      cases okb
      · have hpl := hnil.out rfl
        have HPL := Lib.hid hpl
        clear hpl
        have htn := takeF_nil y.f
        rw [← HPL.out] at htn
        obtain ⟨h1, h2, h3⟩ := told_none htn
        rw [← HT.out] at h1
        injection h1 with _ h1 h4 _
        subst h1
        subst h4
        rw [h2, h3] at he7
        obtain ⟨q0, q1, q2, q3⟩ := box_cells HX7.out
        obtain ⟨p0, p1, p2, p3⟩ := box_cells HZ7.out
        clear h2 h3 htn
        go_wp2_with fail
        refine (like_calls ⟨⟨y.f.kind, 0, [], y.f.most⟩, A', c', 0⟩ ⟨⟨0, 0, [], 0⟩, none, 0, 0⟩ _ (Sl.nil_ _ _ _) (Sl.nil_ _ _ _) (by simp) (by simp)).mono ?_
        rintro e w9 ⟨rfl, hb9⟩
        rw [show Alike2 (FV.f ⟨⟨y.f.kind, 0, [], y.f.most⟩, A', c', 0⟩) (FV.f ⟨⟨0, 0, [], 0⟩, none, 0, 0⟩) = true by simp [Alike2]]
        have he9 := he7.ext hb9
        have hmod9 : Mod (fun i => i = ge) w4 w9 := hmod7.trans (Mod.of_below hb9) (fun i _ h => h) (fun i hi h => absurd (Nat.le_trans hmod7.size h) (by omega))
        clear hb9 qp7 st7 he7 hmod7 y0 y1 y2 y3 q0 q1 q2 q3 p0 p1 p2 p3
        go_wp2_with fail
        refine (Left_calls _ _ _ _ _ he9).mono ?_
        rintro e w10 ⟨rfl, rfl⟩
        clear hk
        go_wp2_with fail
        go_roundw
        case rel => exact ⟨k + 1, AP, cP, 0, [], false, by omega, by go_num, by rw [HPL.out], rfl, Sl.nil_ _ _ _, by simp, by omega, he9, Lib.hid (fun _ => rfl), by simp, Lib.hid (fun h => absurd rfl h), Lib.hid (fun h => absurd rfl h), hmod9⟩
        case measure => simp [intOf]; omega
      · go_wp2_with fail
        refine (Take_calls AP pl pl.length cP bp y.f y.A y.c _ qp7 rfl hpc1 (by unfold maxLen; omega) HY1.out (by omega)).mono ?_
        rintro e w8 ⟨Az, cz, AR, cR, bt, rfl, sz, sR, hRc, hRm, hb8, hbt⟩
        have hX8 := (hb8.block _ (by rw [HS7.out]; omega)).trans HX7.out
        have hZ8 := (hb8.block _ (by rw [HS7.out]; omega)).trans HZ7.out
        have hl8 : w5.heap.size + 2 ≤ w8.heap.size := by rw [← HS7.out]; exact hb8.size
        have st8 := Sl.ext st7 hb8
        have he8 := he7.ext hb8
        have hmod8 : Mod (fun i => i = ge) w4 w8 := hmod7.trans (Mod.of_below hb8) (fun i _ h => h) (fun i hi h => by have := hmod7.size; omega)
        have hsm : tb.length ≤ 1000000 := by omega
        clear st7 he7 hb8 hmod7 y0 y1 y2 y3 qp7
        rw [← HT.out] at sz hbt ⊢
        rw [HS7.out] at hbt
        have HBT := Lib.hid hbt
        clear hbt
        unfold maxLen at hRm
        rcases hd : takeF pl y.f with _ | ⟨y', r'⟩
        · obtain ⟨h1, h2, h3⟩ := told_none hd
          rw [← HT.out] at h1
          injection h1 with _ h1 h4 _
          subst h1
          subst h4
          rw [h2, h3] at he8
          rw [h2]
          simp only [Option.isSome_none]
          have hz9 : Below w8.heap.size w8 (w8.alloc (.cells #[.int .u8 (y.f.kind : Int), .int .u64 0, .slice Az 0 cz, .int .u64 (y.f.most : Int)] 30)) := (Below.refl _ _).alloc (Nat.le_refl _) _
          obtain ⟨q0, q1, q2, q3⟩ := box_cells ((hz9.block _ (by omega)).trans hX8)
          obtain ⟨p0, p1, p2, p3⟩ := box_cells ((hz9.block _ (by omega)).trans hZ8)
          have he9' := he8.ext hz9
          have hmod9' : Mod (fun i => i = ge) w4 _ := hmod8.trans (Mod.of_below hz9) (fun i _ h => h) (fun i hi h => by have := hmod8.size; omega)
          clear h2 h3 hd he8 hmod8 hX8 hZ8 sz sR st8 hz9
          go_wp2_with fail
          refine (like_calls ⟨⟨y.f.kind, 0, [], y.f.most⟩, A', c', 0⟩ ⟨⟨0, 0, [], 0⟩, none, 0, 0⟩ _ (Sl.nil_ _ _ _) (Sl.nil_ _ _ _) (by simp) (by simp)).mono ?_
          rintro e w9 ⟨rfl, hb9⟩
          rw [show Alike2 (FV.f ⟨⟨y.f.kind, 0, [], y.f.most⟩, A', c', 0⟩) (FV.f ⟨⟨0, 0, [], 0⟩, none, 0, 0⟩) = true by simp [Alike2]]
          have he9 := he9'.ext hb9
          have hmod9 : Mod (fun i => i = ge) w4 w9 := hmod9'.trans (Mod.of_below hb9) (fun i _ h => h) (fun i hi h => absurd (Nat.le_trans hmod9'.size h) (by omega))
          clear hb9 he9' hmod9' q0 q1 q2 q3 p0 p1 p2 p3
          go_wp2_with fail
          refine (Left_calls _ _ _ _ _ he9).mono ?_
          rintro e w10 ⟨rfl, rfl⟩
          clear hk
          go_wp2_with fail
          go_roundw
          case rel => exact ⟨k + 1, none, 0, 0, [], false, by omega, by go_num, rfl, rfl, Sl.nil_ _ _ _, by simp, by omega, he9, Lib.hid (fun _ => rfl), by simp, Lib.hid (fun h => absurd rfl h), Lib.hid (fun h => absurd rfl h), hmod9⟩
          case measure => simp [intOf]; omega
        · obtain ⟨h1, h2, h3⟩ := told_some hd
          rw [h2, h3] at he8
          rw [h2] at hleft hRc sR ⊢
          simp only [Option.isSome_some]
          have hz9 : Below w8.heap.size w8 (w8.alloc (.cells #[.int .u8 (y.f.kind : Int), .int .u64 (tn : Int), .slice Az tb.length cz, .int .u64 (y.f.most : Int)] 30)) := (Below.refl _ _).alloc (Nat.le_refl _) _
          obtain ⟨q0, q1, q2, q3⟩ := box_cells ((hz9.block _ (by omega)).trans hX8)
          obtain ⟨p0, p1, p2, p3, pf0, pf1, pf2, pf3⟩ := box_all ((hz9.block _ (by omega)).trans hZ8)
          have hZ9 := Lib.hid ((hz9.block _ (by omega)).trans hZ8)
          have hsz9 : (w8.alloc (.cells #[.int .u8 (y.f.kind : Int), .int .u64 (tn : Int), .slice Az tb.length cz, .int .u64 (y.f.most : Int)] 30)).heap.size = w8.heap.size + 1 := by simp
          have HS9 := Lib.hid hsz9
          have he9' := he8.ext hz9
          have st9 := Sl.ext st8 hz9
          have sz9 := Sl.ext sz hz9
          have sR9 := Sl.ext sR hz9
          have hmod9' : Mod (fun i => i = ge) w4 _ := hmod8.trans (Mod.of_below hz9) (fun i _ h => h) (fun i hi h => by have := hmod8.size; omega)
          clear h1 h2 h3 hd he8 hmod8 hX8 hZ8 sz sR st8 hz9 hsz9
          go_wp2_with fail
          have hE := set4 (a' := .int .u8 (y.f.kind : Int)) (b' := .int .u64 (tn : Int)) (c' := .slice Az tb.length cz) (d' := .int .u64 (y.f.most : Int)) hZ9.out
          have hmE : Mod (fun i => i = w5.heap.size + 1) (w8.alloc (.cells #[.int .u8 (y.f.kind : Int), .int .u64 (tn : Int), .slice Az tb.length cz, .int .u64 (y.f.most : Int)] 30)) (((((w8.alloc (.cells #[.int .u8 (y.f.kind : Int), .int .u64 (tn : Int), .slice Az tb.length cz, .int .u64 (y.f.most : Int)] 30)).setCell ⟨w5.heap.size + 1, 0, none⟩ (.int .u8 (y.f.kind : Int))).setCell ⟨w5.heap.size + 1, 1, none⟩ (.int .u64 (tn : Int))).setCell ⟨w5.heap.size + 1, 2, none⟩ (.slice Az tb.length cz)).setCell ⟨w5.heap.size + 1, 3, none⟩ (.int .u64 (y.f.most : Int))) :=
            (((Mod.setCell _ ⟨w5.heap.size + 1, 0, none⟩ _).trans (Mod.setCell _ ⟨w5.heap.size + 1, 1, none⟩ _) (fun _ _ h => h) (fun _ _ h => h)).trans (Mod.setCell _ ⟨w5.heap.size + 1, 2, none⟩ _) (fun _ _ h => h) (fun _ _ h => h)).trans (Mod.setCell _ ⟨w5.heap.size + 1, 3, none⟩ _) (fun _ _ h => h) (fun _ _ h => h)
          have hpn := hpne.out
          refine (like_calls ⟨⟨y.f.kind, tn, tb, y.f.most⟩, A', c', be⟩ ⟨⟨y.f.kind, tn, tb, y.f.most⟩, Az, cz, bt⟩ _ (Bs.modne st9 hmE (fun h h2 => by have h3 := hbl (hpn (htne.out h)); have h4 : be = w5.heap.size + 1 := h2; omega)) (Bs.modne sz9 hmE (fun h h2 => by have h3 := HBT.out h; have h4 : bt = w5.heap.size + 1 := h2; omega)) (by simp only; omega) (by simp only; omega)).mono ?_
          rintro e w9 ⟨rfl, hb9⟩
          rw [show Alike2 (FV.f ⟨⟨y.f.kind, tn, tb, y.f.most⟩, A', c', be⟩) (FV.f ⟨⟨y.f.kind, tn, tb, y.f.most⟩, Az, cz, bt⟩) = true by simp [Alike2]]
          have hrne := Lib.hid (show r' ≠ [] → pl ≠ [] from fun h h0 => h (by rw [h0] at hleft; exact List.eq_nil_of_length_eq_zero (by simpa using hleft)))
          have he9 := (he9'.modne hmE (by omega) (fun h h2 => by have h3 := hbl (hpn (hrne.out h)); have h4 : be = w5.heap.size + 1 := h2; omega)).ext hb9
          have sR10 := Sl.ext (Bs.modne sR9 hmE (fun h h2 => by have h3 := hbp.out (hrne.out h); have h4 : bp = w5.heap.size + 1 := h2; omega)) hb9
          have hmod9 : Mod (fun i => i = ge) w4 w9 := (hmod9'.trans hmE (S := fun i => i = ge) (fun i _ h => h) (fun i hi h => by have h4 : i = w5.heap.size + 1 := h; omega)).trans (Mod.of_below hb9) (fun i _ h => h) (fun i hi h => absurd (Nat.le_trans (Nat.le_trans hmod9'.size hmE.size) h) (by omega))
          clear hb9 he9' hmod9' hmE hE st9 sz9 sR9 q0 q1 q2 q3 p0 p1 p2 p3 pf0 pf1 pf2 pf3
          go_wp2_with fail
          refine (Left_calls _ _ _ _ _ he9).mono ?_
          rintro e w10 ⟨rfl, rfl⟩
          have hbp' := Lib.hid (show r' ≠ [] → bp < w3.heap.size from fun h => hbp.out (hrne.out h))
          have hpne' := Lib.hid (show r' ≠ [] → p ≠ [] from fun h => hpn (hrne.out h))
          go_wp2_with fail
          go_roundw
          case rel => exact ⟨k + 1, AR, cR, bp, r', true, by omega, by go_num, rfl, rfl, sR10, hRc, by omega, he9, Lib.hid (by simp), by omega, hbp', hpne', hmod9⟩
          case measure => simp [intOf]; omega
    · have hb8 : Below w.heap.size w wr := hb7.trans (hmod.below hb7.size (fun i hi h => by omega))
      clear qp hmod hbr
      cases okb
      · go_wp2_with fail
        refine (Done_calls _ _ _ _ _ qe).mono ?_
        rintro e w9 ⟨rfl, rfl⟩
        rw [show doneErr pl (!false) = 2 by simp [doneErr]]
        go_wp2_with fail
        go_ret
        exact ⟨rfl, hb8⟩
      · by_cases hp0 : pl = []
        · subst hp0
          go_wp2_with fail
          refine (Done_calls _ _ _ _ _ qe).mono ?_
          rintro e w9 ⟨rfl, rfl⟩
          rw [show doneErr [] (!true) = 0 by simp [doneErr]]
          go_wp2_with fail
          go_ret
          exact ⟨rfl, hb8⟩
        · have hl0 : ((pl.length : Int) == 0) = false := by
            simp only [beq_eq_false_iff_ne, ne_eq]
            intro h
            exact hp0 (List.eq_nil_of_length_eq_zero (by omega))
          have HP0 := Lib.hid hp0
          clear hp0
          go_wp2_with fail
          refine (Done_calls _ _ _ _ _ qe).mono ?_
          rintro e w9 ⟨rfl, rfl⟩
          rw [show doneErr pl (!true) = 2 by simp [doneErr, HP0.out]]
          go_wp2_with fail
          go_ret
          exact ⟨rfl, hb8⟩
end Go.Proofs.Ytokjkbbijfiloaa
