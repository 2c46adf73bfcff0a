/- InkNil: for every n and b the Go text returns true: a nil pen and a nil eye tell nothing; what was handed in, and what is told, is nobody else's. No condition. -/
import Derived.Test.YtokjkbbijfiloaaAwake
import Derived.Test.YtokjkbbijfiloaaNumLaw
import Derived.Test.YtokjkbbijfiloaaRefLay
import Derived.Test.YtokjkbbijfiloaaRefCut
namespace Go.Proofs.Ytokjkbbijfiloaa
open Go.RowKit

theorem u8_bump (q : UInt8) : IntKind.u8.wrap ((q.toNat : Int) + 1) = ((UInt8.ofNat (q.toNat + 1)).toNat : Int) := by
  rw [u8_ofNat, IntKind.wrap_u8]; omega

set_option maxHeartbeats 4000000 in
set_option maxRecDepth 20000 in
theorem InkNil_walk (n : Nat) (A : Option Addr) (l0 : List UInt8) (m c b0 : Nat) (w : World) (hn : n ≤ 18446744073709551615) (hs0 : Bs w b0 A l0) (hl0 : l0.length = m) (hm : m ≤ maxLen) :
    Calls Try.prog 7 #[.int .u64 n, .slice A m c] w fun e w' => e = .returned (.bool true) ∧ Below w.heap.size w w' := by
  have HM := Lib.hid hm
  have HL := Lib.hid hl0
  clear hm hl0
  go_enter Try.func7, Try.ntmps7
  go_wp2_with fail
  refine (awake_calls _).mono ?_
  rintro e w1 ⟨rfl, hb1⟩
  go_wp2_with fail
  refine (Cut_calls A l0 m c b0 20 _ (Sl.ext hs0 hb1) HL.out HM.out (by simp; omega)).mono ?_
  rintro e w2 ⟨v2, rfl, r2, hb2⟩
  obtain ⟨l, hl⟩ : ∃ l, l = l0.take (20 : Int).toNat := ⟨_, rfl⟩
  rw [← hl] at r2
  have hl20 : l.length ≤ 20 := by rw [hl]; simp; omega
  clear hl hs0
  obtain ⟨A2, c2, b2, rfl, _, _, _, hb2', s2, _⟩ := r2.sl
  have hb3 : Below w.heap.size w w2 := hb1.trans (hb2.mono hb1.size)
  have lt2 := Bs.lt s2
  clear hb1 hb2 r2
  go_wp2_with fail
  refine (PenNil_Byte 1 _ (by omega)).mono ?_
  rintro e w3 ⟨rfl, hb4⟩
  have s3 := Sl.ext s2 hb4
  have hb4' := hb3.trans (hb4.mono hb3.size)
  clear hb4 hb3 s2
  go_wp2_with fail
  refine (PenNil_Half 2 _ (by omega)).mono ?_
  rintro e w4 ⟨rfl, hb5⟩
  have s4 := Sl.ext s3 hb5
  have hb5' := hb4'.trans (hb5.mono hb4'.size)
  clear hb5 hb4' s3
  go_wp2_with fail
  refine (PenNil_Word 3 _ (by omega)).mono ?_
  rintro e w5 ⟨rfl, hb6⟩
  have s5 := Sl.ext s4 hb6
  have hb6' := hb5'.trans (hb6.mono hb5'.size)
  clear hb6 hb5' s4
  go_wp2_with fail
  refine (PenNil_Num n _ hn).mono ?_
  rintro e w6 ⟨rfl, hb7⟩
  have s6 := Sl.ext s5 hb7
  have hb7' := hb6'.trans (hb7.mono hb6'.size)
  clear hb7 hb6' s5
  go_wp2_with fail
  refine (PenNil_Blob A2 l.length c2 _ (by omega)).mono ?_
  rintro e w7 ⟨rfl, hb8⟩
  have s7 := Sl.ext s6 hb8
  have hb8' := hb7'.trans (hb8.mono hb7'.size)
  clear hb8 hb7' s6
  go_wp2_with fail
  refine (PenNil_Bytes _).mono ?_
  rintro e w9 ⟨rfl, rfl⟩
  go_wp2_with fail
  refine (EyeNil_Byte _).mono ?_
  rintro e w9 ⟨rfl, rfl⟩
  go_wp2_with fail
  refine (EyeNil_Half _).mono ?_
  rintro e w9 ⟨rfl, rfl⟩
  go_wp2_with fail
  refine (EyeNil_Word _).mono ?_
  rintro e w9 ⟨rfl, rfl⟩
  go_wp2_with fail
  refine (EyeNil_Num n _ hn).mono ?_
  rintro e w9 ⟨rfl, rfl⟩
  go_wp2_with fail
  refine (EyeNil_Blob 9 _ (by omega)).mono ?_
  rintro e w9 ⟨rfl, rfl⟩
  go_wp2_with fail
  refine (Left_nil _).mono ?_
  rintro e w9 ⟨rfl, rfl⟩
  go_wp2_with fail
  refine (Done_nil _).mono ?_
  rintro e w9 ⟨rfl, rfl⟩
  go_wp2_with fail
  have hx7 : Below w7.heap.size w7 (w7.alloc (.cells #[.slice none 0 0] 27)) := (Below.refl _ _).alloc (Nat.le_refl _) _
  have hlt7 := Bs.lt s7
  obtain ⟨b3, s8, hne3, hlt3⟩ : ∃ b3, Bs (w7.alloc (.cells #[.slice none 0 0] 27)) b3 A2 l ∧ b3 ≠ w7.heap.size ∧ (l ≠ [] → b3 < w7.heap.size) := by
    by_cases hl : l = []
    · subst hl; exact ⟨w7.heap.size + 1, Sl.nil_ _ _ _, by omega, fun h => absurd rfl h⟩
    · exact ⟨b2, Sl.ext s7 hx7, by have := hlt7 hl; omega, hlt7⟩
  have hw7 : w.heap.size ≤ w7.heap.size := hb8'.size
  have hb9 : Below w.heap.size w (w7.alloc (.cells #[.slice none 0 0] 27)) := hb8'.trans (hx7.mono hw7)
  clear hlt7 s7 hx7 hb8' lt2
  refine (PenBlob_calls _ _ _ A2 l l.length c2 b3 _ (PenAt.new w7) s8 rfl ⟨hne3, by simp⟩ (by simp; omega)).mono ?_
  rintro e w10 ⟨rfl, rq, hq, hst⟩
  have hq := hq.cast (List.nil_append _)
  have s10 := Bs.modne s8 hst.2 (fun _ h => by rcases h with h | h; exact hne3 h; cases h)
  have hb10 : Below w.heap.size w w10 := hb9.trans (hst.2.below hb9.size (fun i hi h => by rcases h with h | h; omega; cases h))
  have hrq : ∀ k, rq = some k → w7.heap.size < k := fun k hk => by
    rcases hst.1 with h | ⟨q, h, hq'⟩
    · rw [h] at hk; cases hk
    · rw [h] at hk; injection hk with hk; subst hk; simp at hq'; omega
  clear s8 hst hb9
  obtain ⟨X, hX⟩ : ∃ X, X = num l.length ++ l := ⟨_, rfl⟩
  rw [← hX] at hq
  have hXl : X.length ≤ 30 := by rw [hX]; have := numF_length 10 l.length; simp; unfold num; omega
  have hXne : X ≠ [] := by rw [hX]; simp [num_ne]
  have HX := Lib.hid hX
  have HXne := Lib.hid hXne
  clear hX hXne
  go_wp2_with fail
  refine (PenBytes_calls _ _ _ _ hq (by omega)).mono ?_
  rintro e w11 ⟨vx, rfl, rx, hb11⟩
  obtain ⟨Ax, cx, bx, hvx, _, _, _, hbx, sx, _⟩ := rx.sl
  have hblkx := Lib.hid (Row.blk_sl rx hvx sx HXne.out)
  subst hvx
  have hltx := Bs.lt sx HXne.out
  have hq11 := hq.ext hb11
  have s11 := Sl.ext s10 hb11
  have hb12 : Below w.heap.size w w11 := hb10.trans (hb11.mono hb10.size)
  have hqlt := hq.lt
  have hrlt := hq.row_lt
  have hlt10 := Bs.lt s10
  have hbx' : w.heap.size ≤ bx := Nat.le_trans hb10.size hbx
  clear hb10 hb11 hq s10 rx
  go_wp2_with fail
  refine (Read_own _ _ _ _ _ _ sx rfl (by omega)).mono ?_
  rintro e w12 ⟨g9, b9, rfl, e9, hg9, hb9, hb13, hblk9⟩
  have sx12 := Sl.ext sx hb13
  have hq12 := hq11.ext hb13
  have s12 := Sl.ext s11 hb13
  have hblkx12 := Lib.hid (show ∃ cur, w12.heap[bx]? = some (.cells cur 5 (0, 0)) by obtain ⟨cur, h⟩ := hblkx.out; exact ⟨cur, (hb13.block bx hltx).trans h⟩)
  have hblk9 := Lib.hid (hblk9 HXne.out)
  have hb14 : Below w.heap.size w w12 := hb12.trans (hb13.mono hb12.size)
  have hg9' : bx < g9 := by omega
  have hb9' : bx < b9 := by omega
  clear hb12 hb13 hq11 s11 sx hblkx hg9 hb9
  go_wp2_with fail
  go_loopw [76] (fun i wr => ∃ (k : Nat) (X' : List UInt8), k ≤ X.length ∧ i = .int .i64 k ∧ Hid (X'.length = X.length) ∧ Bs wr bx Ax X' ∧ Hid (∃ cur, wr.heap[bx]? = some (.cells cur 5 (0, 0))) ∧ Mod (fun i => i = bx) w12 wr) (fun i _ => X.length - (intOf i).toNat)
  case atStart => exact ⟨0, X, Nat.zero_le _, rfl, Lib.hid rfl, sx12, hblkx12, Mod.refl _ _⟩
  case round =>
    obtain ⟨k, X', hk, rfl, hXl', hsx, hblk, hmod⟩ := hrel
    by_cases hlt : k < X.length
    · have hkl : k < X'.length := by rw [hXl'.out]; exact hlt
      obtain ⟨oa, rfl, hca⟩ := Bs.at_ hsx hkl
      have ca := hca k hkl
      obtain ⟨cur, hcur⟩ := hblk.out
      have hfr := frozen_of_row wr bx (oa + k) _ _ hcur
      obtain ⟨q, hq⟩ : ∃ q, q = X'[k] := ⟨_, rfl⟩
      rw [← hq] at ca
      have hbu := u8_bump q
      have HS := Lib.hid (Bs.set_ (q := UInt8.ofNat (q.toNat + 1)) hcur hsx hkl)
      clear hca hcur hq s12 sx12 e9 hblk9 hq12 hblkx12 hb14 hltx
      go_wp2_with fail
      go_roundw
      case rel => exact ⟨k + 1, _, by omega, by go_num, Lib.hid (by rw [List.length_set]; exact hXl'.out), HS.out.1, Lib.hid ⟨_, HS.out.2⟩, hmod.trans (Mod.setCell wr ⟨bx, oa + k, none⟩ _) (fun _ _ h => h) (fun _ _ h => h)⟩
      case measure => simp [intOf]; omega
    · clear hsx hblk hXl'
      have e13 : EyeAt wr g9 b9 X false := e9.modne hmod (by omega) (fun _ => by omega)
      have q13 : PenAt wr w7.heap.size rq X := hq12.mod hmod (by omega) (fun k hk => by have := hrlt k hk; omega)
      have s13 : Bs wr b3 A2 l := Bs.modne s12 hmod (fun h => by have := hlt3 h; omega)
      have hblk13 := Lib.hid (show ∃ cur, wr.heap[b9]? = some (.cells cur 5 (0, 0)) by obtain ⟨cur, h⟩ := hblk9.out; exact ⟨cur, (hmod.block b9 (Array.getElem?_eq_some_iff.1 h).1 (by omega)).trans h⟩)
      have hb15 : Below w.heap.size w wr := hb14.trans (hmod.below hb14.size (fun i hi h => by omega))
      clear s12 e9 hblk9 hq12 hb14 hmod sx12 hblkx12
      go_wp2_with fail
      refine (EyeBlob_calls g9 b9 X false 20 _ e13 (by omega)).mono ?_
      rintro e w14 ⟨hm14, hy, _⟩
      have hrd : rdBlob X 20 = some (l, []) := by
        have h1 := rd_num l.length l (by omega)
        rw [← HX.out] at h1
        have h2 : X.drop (num l.length).length = l := by rw [HX.out]; simp
        unfold rdBlob
        rw [h1]
        simp only
        rw [h2, if_pos ⟨hl20, Nat.le_refl _⟩, List.take_of_length_le (Nat.le_refl _), List.drop_of_length_le (Nat.le_refl _)]
      obtain ⟨Az, rfl, sz, e14⟩ := hy l [] hrd
      have q14 := q13.mod hm14 (by omega) (fun k hk => by have := hrlt k hk; omega)
      have s14 := Bs.modne s13 hm14 (fun h => by have := hlt3 h; omega)
      have hne9 := e14.1
      have hblk14 := Lib.hid (show ∃ cur, w14.heap[b9]? = some (.cells cur 5 (0, 0)) by obtain ⟨cur, h⟩ := hblk13.out; exact ⟨cur, (hm14.block b9 (Array.getElem?_eq_some_iff.1 h).1 hne9).trans h⟩)
      have hb16 : Below w.heap.size w w14 := hb15.trans (hm14.below hb15.size (fun i hi h => by omega))
      clear e13 q13 s13 hblk13 hb15 hm14 hy e14 hrd
      go_wp2_with fail
      go_loopw [90] (fun i wr => ∃ (k : Nat) (X' : List UInt8), k ≤ l.length ∧ i = .int .i64 k ∧ Hid (X'.length = l.length) ∧ Bs wr b9 Az X' ∧ Hid (∃ cur, wr.heap[b9]? = some (.cells cur 5 (0, 0))) ∧ Mod (fun i => i = b9) w14 wr) (fun i _ => l.length - (intOf i).toNat)
      case atStart => exact ⟨0, l, Nat.zero_le _, rfl, Lib.hid rfl, sz, hblk14, Mod.refl _ _⟩
      case round =>
        obtain ⟨k, X', hk, rfl, hXl', hsx, hblk, hmod⟩ := hrel
        by_cases hlt : k < l.length
        · have hkl : k < X'.length := by rw [hXl'.out]; exact hlt
          obtain ⟨oa, rfl, hca⟩ := Bs.at_ hsx hkl
          have ca := hca k hkl
          obtain ⟨cur, hcur⟩ := hblk.out
          have hfr := frozen_of_row wr b9 (oa + k) _ _ hcur
          obtain ⟨q, hq⟩ : ∃ q, q = X'[k] := ⟨_, rfl⟩
          rw [← hq] at ca
          have hbu := u8_bump q
          have HS := Lib.hid (Bs.set_ (q := UInt8.ofNat (q.toNat + 1)) hcur hsx hkl)
          clear hca hcur hq s14 sz q14 hblk14 hb16
          go_wp2_with fail
          go_roundw
          case rel => exact ⟨k + 1, _, by omega, by go_num, Lib.hid (by rw [List.length_set]; exact hXl'.out), HS.out.1, Lib.hid ⟨_, HS.out.2⟩, hmod.trans (Mod.setCell wr ⟨b9, oa + k, none⟩ _) (fun _ _ h => h) (fun _ _ h => h)⟩
          case measure => simp [intOf]; omega
        · clear hsx hblk hXl'
          have q17 : PenAt wr w7.heap.size rq X := q14.mod hmod (by omega) (fun k hk => by have := hrlt k hk; omega)
          have s17 : Bs wr b3 A2 l := Bs.modne s14 hmod (fun h => by have := hlt3 h; omega)
          have hb17 : Below w.heap.size w wr := hb16.trans (hmod.below hb16.size (fun i hi h => by omega))
          clear q14 s14 hb16 hmod sz hblk14
          go_wp2_with fail
          refine (PenBytes_calls _ _ _ _ q17 (by omega)).mono ?_
          rintro e w18 ⟨v18, rfl, r18, hb18⟩
          obtain ⟨A18, c18, b18, rfl, _, _, _, _, s18, _⟩ := r18.sl
          have s19 := Sl.ext s17 hb18
          have hb19 := hb17.trans (hb18.mono hb17.size)
          clear q17 s17 hb17 hb18 r18
          go_wp2_with fail
          refine (Lay_calls ⟨4, 0, l, 0⟩ A2 c2 b3 _ ⟨by simp, by simp, by simp⟩ s19 (by simp only; omega)).mono ?_
          rintro e w20 ⟨v20, rfl, r20, hb20⟩
          have r20 := r20.cast (show layF ⟨4, 0, l, 0⟩ = X by rw [HX.out]; rfl)
          obtain ⟨A20, c20, b20, rfl, _, _, _, _, s20, _⟩ := r20.sl
          have s21 := Sl.ext s18 hb20
          have hb21 := hb19.trans (hb20.mono hb19.size)
          clear s18 s19 hb19 hb20 r20
          go_wp2_with fail
          refine (Same_calls _ _ X X X.length X.length _ _ _ _ _ s21 s20 rfl rfl (by simp only [maxLen]; omega) (by simp only [maxLen]; omega)).mono ?_
          rintro e w22 ⟨rfl, kk, rfl⟩
          rw [show decide (X = X) = true by simp]
          go_wp2_with fail
          go_ret
          exact ⟨rfl, below_drewN hb21 kk⟩
end Go.Proofs.Ytokjkbbijfiloaa
