/- InkSizes: for every n and m the Go text returns true: fixed fields have always as many bytes, a number as many as it has sevens of bits. No condition. -/
import Derived.Test.YtokjkbbijfiloaaAwake
import Derived.Test.YtokjkbbijfiloaaNumLaw
namespace Go.Proofs.Ytokjkbbijfiloaa
open Go.RowKit

set_option maxHeartbeats 4000000 in
set_option maxRecDepth 20000 in
theorem InkSizes_walk (n m : Nat) (w : World) (hn : n ≤ 18446744073709551615) (_hm : m ≤ 18446744073709551615) :
    Calls Try.prog 6 #[.int .u64 n, .int .u64 m] w fun e w' => e = .returned (.bool true) ∧ Below w.heap.size w w' := by
  go_enter Try.func6, Try.ntmps6
  go_wp2_with fail
  refine (awake_calls _).mono ?_
  rintro e w0 ⟨rfl, hb0⟩
  go_wp2_with fail
  go_loop [9, 10] (fun s x => ∃ k y : Nat, s = .int .i64 k ∧ x = .int .u64 y ∧ Hid (Sevens n k y) ∧ k ≤ 10 ∧ y ≤ n) (fun _ x => (intOf x).toNat)
  case atStart => exact ⟨1, n / 128, rfl, by go_num, Lib.hid (Sevens.first n hn), by omega, by omega⟩
  case round =>
    obtain ⟨k, y, rfl, rfl, hs, hk, hy⟩ := hrel
    by_cases h0 : 0 < y
    · go_wp2_with fail
      go_round
      case rel => exact ⟨k + 1, y / 128, by go_num, by go_num, Lib.hid (hs.out.next h0), (hs.out.next h0).le, by omega⟩
      case measure => simp [intOf]; omega
    · obtain rfl : y = 0 := by omega
      have hlen := Lib.hid hs.out.last
      have hl10 := numF_length 10 n
      have pa : PenAt ((((w0.alloc (.cells #[.slice none 0 0] 27)).alloc (.cells #[.slice none 0 0] 27)).alloc (.cells #[.slice none 0 0] 27)).alloc (.cells #[.slice none 0 0] 27)) w0.heap.size none [] := (((PenAt.new w0).ext ((Below.refl _ _).alloc (Nat.le_refl _) _)).ext ((Below.refl _ _).alloc (Nat.le_refl _) _)).ext ((Below.refl _ _).alloc (Nat.le_refl _) _)
      have pb : PenAt ((((w0.alloc (.cells #[.slice none 0 0] 27)).alloc (.cells #[.slice none 0 0] 27)).alloc (.cells #[.slice none 0 0] 27)).alloc (.cells #[.slice none 0 0] 27)) (w0.heap.size + 1) none [] := by
        simpa using ((PenAt.new (w0.alloc (.cells #[.slice none 0 0] 27))).ext ((Below.refl _ _).alloc (Nat.le_refl _) (.cells #[.slice none 0 0] 27))).ext ((Below.refl _ _).alloc (Nat.le_refl _) (.cells #[.slice none 0 0] 27))
      have pc : PenAt ((((w0.alloc (.cells #[.slice none 0 0] 27)).alloc (.cells #[.slice none 0 0] 27)).alloc (.cells #[.slice none 0 0] 27)).alloc (.cells #[.slice none 0 0] 27)) (w0.heap.size + 1 + 1) none [] := by
        simpa using (PenAt.new ((w0.alloc (.cells #[.slice none 0 0] 27)).alloc (.cells #[.slice none 0 0] 27))).ext ((Below.refl _ _).alloc (Nat.le_refl _) (.cells #[.slice none 0 0] 27))
      have pd : PenAt ((((w0.alloc (.cells #[.slice none 0 0] 27)).alloc (.cells #[.slice none 0 0] 27)).alloc (.cells #[.slice none 0 0] 27)).alloc (.cells #[.slice none 0 0] 27)) (w0.heap.size + 1 + 1 + 1) none [] := by
        simpa using PenAt.new (((w0.alloc (.cells #[.slice none 0 0] 27)).alloc (.cells #[.slice none 0 0] 27)).alloc (.cells #[.slice none 0 0] 27))
      have hb4 : Below w.heap.size w ((((w0.alloc (.cells #[.slice none 0 0] 27)).alloc (.cells #[.slice none 0 0] 27)).alloc (.cells #[.slice none 0 0] 27)).alloc (.cells #[.slice none 0 0] 27)) := by
        refine (((hb0.alloc ?_ _).alloc ?_ _).alloc ?_ _).alloc ?_ _ <;> (have := hb0.size; simp; omega)
      have hs0 := hb0.size
      go_wp2_with fail
      refine (PenNum_calls _ _ _ n _ pd hn (by simp)).mono ?_
      rintro e w1 ⟨rfl, r1, pd1, s1⟩
      have hb5 : Below w.heap.size w w1 := hb4.trans (s1.2.below hb4.size (fun i hi h => by rcases h with h | h; omega; cases h))
      have pa1 := pa.mod s1.2 (by rintro (h | h); omega; cases h) (fun k hk => by cases hk)
      have pb1 := pb.mod s1.2 (by rintro (h | h); omega; cases h) (fun k hk => by cases hk)
      have pc1 := pc.mod s1.2 (by rintro (h | h); omega; cases h) (fun k hk => by cases hk)
      have pd2 := pd1.cast (List.nil_append _)
      have hg1 := pd1.lt
      clear pa pb pc pd s1 pd1 hb4
      go_wp2_with fail
      refine (PenBytes_calls _ _ _ _ pd2 (by unfold num; omega)).mono ?_
      rintro e w2 ⟨vx, rfl, rx, hb6⟩
      have pa2 := pa1.ext hb6
      have pb2 := pb1.ext hb6
      have pc2 := pc1.ext hb6
      have hb7 := hb5.trans (hb6.mono hb5.size)
      have hb6' := hb6
      obtain ⟨Ax, cx, bx, rfl, hxc, hxm, _, hxb, sx, _⟩ := rx.sl
      clear pa1 pb1 pc1 pd2 hb5 hb6 rx
      go_wp2_with fail
      rw [show ((n : Int) % 256) = ((n % 256 : Nat) : Int) from by omega]
      refine (PenByte_calls _ _ _ (n % 256) _ pa2 (by omega) (by simp)).mono ?_
      rintro e w3 ⟨rfl, r3, pa3, s3⟩
      have sx3 := Sl.mod sx s3.2 (by rintro (h | h); omega; cases h)
      have pb3 := pb2.mod s3.2 (by rintro (h | h); omega; cases h) (fun k hk => by cases hk)
      have pc3 := pc2.mod s3.2 (by rintro (h | h); omega; cases h) (fun k hk => by cases hk)
      have hb8 : Below w.heap.size w w3 := hb7.trans (s3.2.below hb7.size (fun i hi h => by rcases h with h | h; omega; cases h))
      have hg3 : w0.heap.size + 1 + 1 + 1 < w3.heap.size := Nat.lt_of_lt_of_le hg1 (Nat.le_trans hb6'.size s3.2.size)
      have hx3 : w0.heap.size + 1 + 1 + 1 < bx := by omega
      clear pa2 pb2 pc2 s3 sx hb7
      go_wp2_with fail
      refine (PenBytes_calls _ _ _ _ pa3 (by simp)).mono ?_
      rintro e w4 ⟨v4, rfl, r4, hb9⟩
      have sx4 := Sl.ext sx3 hb9
      have pb4 := pb3.ext hb9
      have pc4 := pc3.ext hb9
      have hb10 := hb8.trans (hb9.mono hb8.size)
      obtain ⟨A4, c4, b4, rfl, _, _, _, _, _, _⟩ := r4.sl
      clear r4 hb9 hb8 pa3 pb3 pc3 sx3
      go_wp2_with fail
      rw [show IntKind.u16.wrap (n : Int) = ((n % 65536 : Nat) : Int) from by rw [IntKind.wrap_u16]; omega]
      refine (PenHalf_calls _ _ _ (n % 65536) _ pb4 (by omega) (by simp)).mono ?_
      rintro e w5 ⟨rfl, r5, pb5, s5⟩
      have sx5 := Sl.mod sx4 s5.2 (by rintro (h | h); omega; cases h)
      have pc5 := pc4.mod s5.2 (by rintro (h | h); omega; cases h) (fun k hk => by cases hk)
      have hb11 : Below w.heap.size w w5 := hb10.trans (s5.2.below hb10.size (fun i hi h => by rcases h with h | h; omega; cases h))
      clear pb4 pc4 s5 sx4 hb10
      go_wp2_with fail
      refine (PenBytes_calls _ _ _ _ pb5 (by simp)).mono ?_
      rintro e w6 ⟨v6, rfl, r6, hb12⟩
      have sx6 := Sl.ext sx5 hb12
      have pc6 := pc5.ext hb12
      have hb13 := hb11.trans (hb12.mono hb11.size)
      obtain ⟨A6, c6, b6, rfl, _, _, _, _, _, _⟩ := r6.sl
      clear r6 hb12 hb11 pb5 pc5 sx5
      go_wp2_with fail
      rw [show ((m : Int) % 4294967296) = ((m % 4294967296 : Nat) : Int) from by omega]
      refine (PenWord_calls _ _ _ (m % 4294967296) _ pc6 (by omega) (by simp)).mono ?_
      rintro e w7 ⟨rfl, r7, pc7, s7⟩
      have sx7 := Sl.mod sx6 s7.2 (by rintro (h | h); omega; cases h)
      have hb14 : Below w.heap.size w w7 := hb13.trans (s7.2.below hb13.size (fun i hi h => by rcases h with h | h; omega; cases h))
      clear pc6 s7 sx6 hb13
      go_wp2_with fail
      refine (PenBytes_calls _ _ _ _ pc7 (by simp)).mono ?_
      rintro e w8 ⟨v8, rfl, r8, hb15⟩
      have sx8 := Sl.ext sx7 hb15
      have hb16 := hb14.trans (hb15.mono hb14.size)
      obtain ⟨A8, c8, b8, rfl, _, _, _, _, _, _⟩ := r8.sl
      clear r8 hb15 hb14 pc7 sx7
      have hlq : (((num n).length : Int) == (k : Int)) = true := by rw [hlen.out]; simp
      have hbx : bx < w8.heap.size := Sl.lt sx8 (by rw [ne_eq, bv_nil_iff]; exact num_ne n)
      go_wp2_with fail
      refine (Read_calls _ _ _ _ _ _ sx8 rfl (by unfold num; omega)).mono ?_
      rintro e w9 ⟨g9, b9, rfl, e9, hg9, _, hb17⟩
      have sx9 := Sl.ext sx8 hb17
      have hb18 := hb16.trans (hb17.mono hb16.size)
      have hg9' : w.heap.size ≤ g9 := Nat.le_trans hb16.size hg9
      have hne9 : ¬ bx = g9 := by omega
      clear sx8 hb16 hb17 hg9
      go_wp2_with fail
      refine (EyeNum_calls _ _ _ _ n _ e9 hn).mono ?_
      rintro e w10 ⟨hy, _, hm10⟩
      obtain ⟨rfl, _⟩ := hy n _ (rd_num' n hn) (Nat.le_refl _)
      have sx10 := Sl.mod sx9 hm10 hne9
      have hb19 : Below w.heap.size w w10 := hb18.trans (hm10.below hb18.size (fun i hi h => by omega))
      clear hy hm10 sx9 e9 hb18 hne9
      by_cases hn0 : n = 0
      · have hq0 : ((n : Int) == 0) = true := by simp [hn0]
        clear hn0
        go_wp2_with fail
        go_ret
        exact ⟨rfl, hb19⟩
      · have hq0 : ((n : Int) == 0) = false := by simp [hn0]
        have hn1 : 1 ≤ n := by omega
        clear hn0
        go_wp2_with fail
        refine (Read_calls _ _ _ _ _ _ sx10 rfl (by unfold num; omega)).mono ?_
        rintro e w11 ⟨g11, b11, rfl, e11, hg11, _, hb20⟩
        have hb21 := hb19.trans (hb20.mono hb19.size)
        have hg11' : w.heap.size ≤ g11 := Nat.le_trans hb19.size hg11
        clear sx10 hb19 hb20 hg11
        go_wp2_with fail
        rw [show ((n : Int) - 1) = ((n - 1 : Nat) : Int) from by omega]
        refine (EyeNum_calls _ _ _ _ (n - 1) _ e11 (by omega)).mono ?_
        rintro e w12 ⟨_, hy, hm12⟩
        obtain ⟨rfl, _⟩ := hy (fun v k' hv => by rw [rd_num' n hn] at hv; injection hv with hv; injection hv with h1 h2; omega)
        have hb22 : Below w.heap.size w w12 := hb21.trans (hm12.below hb21.size (fun i hi h => by omega))
        clear hy hm12 e11 hb21
        go_wp2_with fail
        go_ret
        exact ⟨rfl, hb22⟩
end Go.Proofs.Ytokjkbbijfiloaa
