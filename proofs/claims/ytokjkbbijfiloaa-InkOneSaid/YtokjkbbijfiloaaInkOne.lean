/- InkOne: for every p and l the Go text returns true: bytes that are read to their end are just those that are laid of what was read. No condition. -/
import Derived.Test.YtokjkbbijfiloaaOneLaw
import Derived.Test.YtokjkbbijfiloaaAwake
import Derived.Test.YtokjkbbijfiloaaRefCut
namespace Go.Proofs.Ytokjkbbijfiloaa
open Go.RowKit

set_option maxHeartbeats 4000000 in
set_option maxRecDepth 20000 in
theorem InkOne_walk (A0 : Option Addr) (l0 : List UInt8) (n0 c0 b0 : Nat) (A1 : Option Addr) (fs1 : List FV) (n1 c1 b1 : Nat) (w : World) (hs0 : Bs w b0 A0 l0) (hl0 : l0.length = n0) (hm0 : n0 ≤ maxLen)
    (hs1 : FldsIn w b1 A1 fs1) (hl1 : fs1.length = n1) (hm1 : n1 ≤ maxLen) :
    Calls Try.prog 5 #[.slice A0 n0 c0, .slice A1 n1 c1] w fun e w' => e = .returned (.bool true) ∧ Below w.heap.size w w' := by
  have H0 := Lib.hid hl0
  have H1 := Lib.hid hl1
  have M0 := Lib.hid hm0
  have M1 := Lib.hid hm1
  clear hl0 hl1 hm0 hm1
  go_enter Try.func5, Try.ntmps5
  go_wp2_with fail
  refine (awake_calls _).mono ?_
  rintro e w1 ⟨rfl, hb1⟩
  go_wp2_with fail
  refine (Cut_calls A0 l0 n0 c0 b0 60 _ (Sl.ext hs0 hb1) H0.out M0.out (by simp; omega)).mono ?_
  rintro e w2 ⟨v2, rfl, r2, hb2⟩
  obtain ⟨p, hp⟩ : ∃ p, p = l0.take (60 : Int).toNat := ⟨_, rfl⟩
  rw [← hp] at r2
  have hp60 : p.length ≤ 60 := by rw [hp]; simp; omega
  clear hp hs0
  obtain ⟨A2, c2, b2, rfl, _, _, _, _, s2, _⟩ := r2.sl
  have hs1' := (hs1.ext hb1).ext hb2
  have hb3 : Below w.heap.size w w2 := hb1.trans (hb2.mono hb1.size)
  clear hb1 hb2 r2 hs1
  go_wp2_with fail
  refine (few_calls A1 fs1 n1 c1 b1 _ hs1' H1.out M1.out).mono ?_
  rintro e w3 ⟨v, ys, rfl, hm, hr, hin, hb4⟩
  obtain ⟨Ay, cy, by_, rfl, sy⟩ := Short.of_few hm hr hin
  have hmost := Lib.hid (few_most hm)
  have s3 := Sl.ext s2 hb4
  have hb5 := hb3.trans (hb4.mono hb3.size)
  clear hm hr hin hb3 hb4 hs1' s2
  go_wp2_with fail
  refine (Read_calls _ _ _ _ _ _ s3 rfl (by omega)).mono ?_
  rintro e w4 ⟨ge, be, rfl, he, hge, hbe, hb6⟩
  have s4 := Sl.ext s3 hb6
  have hb7 := hb5.trans (hb6.mono hb5.size)
  have hw3 : w.heap.size ≤ w3.heap.size := hb5.size
  have hw4 : w3.heap.size ≤ w4.heap.size := hb6.size
  have HB6 := Lib.hid hb6
  have hgl := he.lt
  have hbl : p ≠ [] → be < w4.heap.size := by obtain ⟨_, A', c', _, _, _, hs⟩ := he; exact Bs.lt hs
  have hs3lt := Bs.lt s3
  clear s3
  clear hb5 hb6
  have hx : Below w4.heap.size w4 (w4.alloc (.cells #[.slice none 0 0] 27)) := (Below.refl _ _).alloc (Nat.le_refl _) _
  have hylen := sy.2.1
  go_wp2_with fail
  go_loopw [19] (fun i wr => ∃ (k : Nat) (rw_ : Option Nat) (lw rest : List UInt8) (bad : Bool), k ≤ ys.length ∧ i = .int .i64 k ∧ PenAt wr w4.heap.size rw_ lw ∧ EyeAt wr ge be rest bad ∧ Hid (bad = false → lw ++ rest = p) ∧ lw.length ≤ 100 * k ∧ rest.length ≤ 60 ∧ Hid (rest ≠ [] → p ≠ []) ∧
      Hid (Ge (w4.heap.size + 1) rw_) ∧ Mod (fun i => i = ge) w4 wr ∧ w4.heap.size + 1 ≤ wr.heap.size) (fun i _ => ys.length - (intOf i).toNat)
  case atStart => exact ⟨0, none, [], p, false, Nat.zero_le _, rfl, PenAt.new w4, he.ext hx, Lib.hid (by simp), by simp, hp60, Lib.hid (fun h => h), Lib.hid (Ge.none_ _), (Mod.alloc _ w4 _), by simp⟩
  case round =>
    obtain ⟨k, rw_, lw, rest, bad, hk, rfl, qw, qe, hinv, hlw, hrest, hne, hge2, hmod, hsz⟩ := hrel
    have hbr : Below w3.heap.size w3 wr := HB6.out.trans (hmod.below hw4 (fun i hi h => by omega))
    have hrl := qw.row_lt
    by_cases hlt : k < ys.length
    · have syr := sy.ext hbr
      obtain ⟨oy, rfl, d0, d1, d2, d3⟩ := syr.1.at_ hlt
      obtain ⟨y, hy⟩ : ∃ y, y = ys[k] := ⟨_, rfl⟩
      rw [← hy] at d0 d1 d2 d3
      have hyok : y.f.Ok := (syr.1.2 y (by rw [hy]; exact List.getElem_mem hlt)).2.1
      have hymo : y.f.kind % 5 = 4 → y.f.most ≤ 9223372036854775807 := fun h => by have := hmost.out y (by rw [hy]; exact List.getElem_mem hlt) h; omega
      have hxw : Below wr.heap.size wr (wr.alloc (.cells #[.int .u8 (y.f.kind : Int), .int .u64 (y.f.n : Int), .slice y.A y.f.b.length y.c, .int .u64 (y.f.most : Int)] 30)) := (Below.refl _ _).alloc (Nat.le_refl _) _
      have hsz0 : (wr.alloc (.cells #[.int .u8 (y.f.kind : Int), .int .u64 (y.f.n : Int), .slice y.A y.f.b.length y.c, .int .u64 (y.f.most : Int)] 30)).heap.size = wr.heap.size + 1 := by simp
      have HSZ := Lib.hid hsz0
      have HY1 := Lib.hid hyok
      have HY2 := Lib.hid hymo
      have HBR := Lib.hid hbr
      clear hy syr hsz0 hyok hymo hbr
      go_wp2_with fail
      refine (take_calls ge be rest bad y.f y.A y.c _ (qe.ext hxw) HY1.out HY2.out).mono ?_
      rintro e w5 ⟨A', c', rfl, st, he5, hm5⟩
      have hto := told_ok rest HY1.out
      have hinv2 := Lib.hid (show badF rest bad y.f = false → (lw ++ layF (toldF rest y.f)) ++ leftF rest y.f = p by
        intro hb
        obtain ⟨h1, h2⟩ := badF_lay hb
        rw [List.append_assoc, h2]
        exact hinv.out h1)
      have hrest2 := leftF_len rest y.f
      obtain ⟨t, ht⟩ : ∃ t, t = toldF rest y.f := ⟨_, rfl⟩
      obtain ⟨rest', hr'⟩ : ∃ r, r = leftF rest y.f := ⟨_, rfl⟩
      obtain ⟨bad', hb'⟩ : ∃ r, r = badF rest bad y.f := ⟨_, rfl⟩
      rw [← ht] at st hto hinv2 ⊢
      rw [← hr'] at he5 hinv2 hrest2
      rw [← hb'] at he5 hinv2
      have hne2 := Lib.hid (show rest' ≠ [] → p ≠ [] from fun h => hne.out (fun h0 => h (by
        have h1 := hrest2
        rw [h0] at h1
        exact List.eq_nil_of_length_eq_zero (by simpa using h1))))
      have htne := Lib.hid (show t.b ≠ [] → p ≠ [] from fun h => hne.out (fun h0 => h (by
        have h1 := hto.2.2.2
        rw [h0] at h1
        exact List.eq_nil_of_length_eq_zero (by simpa using h1))))
      clear ht hr' hb' hinv hne
      obtain ⟨htok, _, _, htb⟩ := hto
      have HT := Lib.hid htok
      have qw5 : PenAt w5 w4.heap.size rw_ lw := (qw.ext hxw).mod hm5 (by omega) (fun q hq => by have := hge2.out q hq; omega)
      have hsz5 : wr.heap.size + 1 ≤ w5.heap.size := by rw [← HSZ.out]; exact hm5.size
      have hmod5 : Mod (fun i => i = ge) w4 w5 := hmod.trans ((Mod.of_below hxw).trans hm5 (S := fun i => i = ge ∨ wr.heap.size ≤ i) (fun i _ h => .inr h) (fun i _ h => .inl h)) (fun i _ h => h) (fun i hi h => by omega)
      have htl := layF_len2 t 60 (by omega)
      clear qw qe hxw hm5 htok d0 d1 d2 d3
      go_wp2_with fail
      refine (lay_calls w4.heap.size rw_ lw ⟨t, A', c', be⟩ _ qw5 ⟨st, HT.out, by simp only [maxLen]; omega⟩ (fun h => ⟨by have := hbl (htne.out h); simp only; omega, fun e => by have := hge2.out _ e; have := hbl (htne.out h); simp only at *; omega⟩) (by simp only; omega)).mono ?_
      rintro e w6 ⟨rfl, rw', qw6, hst⟩
      have he6 : EyeAt w6 ge be rest' bad' := he5.modne hst.2 (by rintro (h | h); omega; have := hge2.out _ h; omega) (fun h => by have h1 := hbl (hne2.out h); rintro (h | h); omega; have := hge2.out _ h; omega)
      have hge3 := Ge.step hge2.out hst (by omega)
      have hmod6 : Mod (fun i => i = ge) w4 w6 := hmod5.trans hst.2 (fun i _ h => h) (fun i hi h => by rcases h with h | h; omega; have := hge2.out _ h; omega)
      have hsz6 := hst.2.size
      clear qw5 he5 hst st hmod5
      go_wp2_with fail
      go_roundw
      case rel => exact ⟨k + 1, rw', lw ++ layF t, rest', bad', by omega, by go_num, qw6, he6, hinv2, by simp only [List.length_append]; omega, by omega, hne2, Lib.hid hge3, hmod6, by omega⟩
      case measure => simp [intOf]; omega
    · have hb8 : Below w.heap.size w wr := hb7.trans (hmod.below hb7.size (fun i hi h => by omega))
      have s8 : Bs wr b2 A2 p := Bs.modne s4 hmod (fun h => by have := hs3lt h; omega)
      clear s4 hmod hbr
      go_wp2_with fail
      refine (Done_calls _ _ _ _ _ qe).mono ?_
      rintro e w9 ⟨rfl, rfl⟩
      by_cases hd : bad = true ∨ rest ≠ []
      · have hd2 : doneErr rest bad = 2 := by unfold doneErr; rw [if_pos hd]
        rw [hd2]
        clear hd qe hd2 hinv
        go_wp2_with fail
        go_ret
        exact ⟨rfl, hb8⟩
      · have hd2 : doneErr rest bad = 0 := by unfold doneErr; rw [if_neg hd]
        rw [hd2]
        have hbad : bad = false := by cases bad <;> simp at hd ⊢
        have hr0 : rest = [] := by
          rcases Classical.em (rest = []) with h | h
          · exact h
          · exact absurd (.inr h) hd
        have hpl : lw = p := by
          have := hinv.out hbad
          rwa [hr0, List.append_nil] at this
        have qw9 := qw.cast hpl
        clear hd qe hd2 hinv hbad hr0 hpl qw
        go_wp2_with fail
        refine (PenBytes_calls _ _ _ _ qw9 (by omega)).mono ?_
        rintro e w10 ⟨v10, rfl, r10, hb10⟩
        obtain ⟨A10, c10, b10, rfl, _, _, _, _, s10, _⟩ := r10.sl
        have s11 := Sl.ext s8 hb10
        have hb11 := hb8.trans (hb10.mono hb8.size)
        clear qw9 s8 hb8 hb10 r10
        go_wp2_with fail
        refine (Same_calls _ _ p p p.length p.length _ _ _ _ _ s10 s11 rfl rfl (by simp only [maxLen]; omega) (by simp only [maxLen]; omega)).mono ?_
        rintro e w12 ⟨rfl, kk, rfl⟩
        rw [show decide (p = p) = true by simp]
        go_wp2_with fail
        go_ret
        exact ⟨rfl, below_drewN hb11 kk⟩
end Go.Proofs.Ytokjkbbijfiloaa
