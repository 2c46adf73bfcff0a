/- InkParts: for every l and m the Go text returns true: what is written part by part is what is written at once. No condition. -/
import Derived.Test.YtokjkbbijfiloaaApart
import Derived.Test.YtokjkbbijfiloaaAwake
namespace Go.Proofs.Ytokjkbbijfiloaa
open Go.RowKit

set_option maxHeartbeats 4000000 in
set_option maxRecDepth 20000 in
theorem InkParts_walk (A0 : Option Addr) (fs0 : List FV) (n0 c0 b0 : Nat) (A1 : Option Addr) (fs1 : List FV) (n1 c1 b1 : Nat) (w : World) (hs0 : FldsIn w b0 A0 fs0) (hl0 : fs0.length = n0) (hm0 : n0 ≤ maxLen)
    (hs1 : FldsIn w b1 A1 fs1) (hl1 : fs1.length = n1) (hm1 : n1 ≤ maxLen) :
    Calls Try.prog 8 #[.slice A0 n0 c0, .slice A1 n1 c1] w fun e w' => e = .returned (.bool true) ∧ Below w.heap.size w w' := by
  have H0 := Lib.hid hl0
  have H1 := Lib.hid hl1
  have M0 := Lib.hid hm0
  have M1 := Lib.hid hm1
  clear hl0 hl1 hm0 hm1
  go_enter Try.func8, Try.ntmps8
  go_wp2_with fail
  refine (awake_calls _).mono ?_
  rintro e w1 ⟨rfl, hb1⟩
  go_wp2_with fail
  refine (few_calls A0 fs0 n0 c0 b0 _ (hs0.ext hb1) H0.out M0.out).mono ?_
  rintro e w2 ⟨v, ys, rfl, hm, hr, hin, hb2⟩
  obtain ⟨Ay, cy, by_, rfl, sy⟩ := Short.of_few hm hr hin
  have hs1' := (hs1.ext hb1).ext hb2
  have hb3 := hb1.trans (hb2.mono hb1.size)
  clear hm hr hin hb1 hb2 hs0 hs1
  go_wp2_with fail
  refine (few_calls A1 fs1 n1 c1 b1 _ hs1' H1.out M1.out).mono ?_
  rintro e w3 ⟨v, zs, rfl, hm, hr, hin, hb4⟩
  obtain ⟨Az, cz, bz, rfl, sz⟩ := Short.of_few hm hr hin
  have sy3 := sy.ext hb4
  have hb5 := hb3.trans (hb4.mono hb3.size)
  clear hm hr hin hb3 hb4 hs1' sy
  have hx3 : Below w3.heap.size w3 (((w3.alloc (.cells #[.slice none 0 0] 27)).alloc (.cells #[.slice none 0 0] 27)).alloc (.cells #[.slice none 0 0] 27)) :=
    (((Below.refl _ _).alloc (Nat.le_refl _) _).alloc (by simp) _).alloc (by simp; omega) _
  have pa : PenAt (((w3.alloc (.cells #[.slice none 0 0] 27)).alloc (.cells #[.slice none 0 0] 27)).alloc (.cells #[.slice none 0 0] 27)) w3.heap.size none [] := ((PenAt.new w3).ext ((Below.refl _ _).alloc (Nat.le_refl _) _)).ext ((Below.refl _ _).alloc (Nat.le_refl _) _)
  have pb : PenAt (((w3.alloc (.cells #[.slice none 0 0] 27)).alloc (.cells #[.slice none 0 0] 27)).alloc (.cells #[.slice none 0 0] 27)) (w3.heap.size + 1) none [] := by
    simpa using ((PenAt.new (w3.alloc (.cells #[.slice none 0 0] 27))).ext ((Below.refl _ _).alloc (Nat.le_refl _) (.cells #[.slice none 0 0] 27)))
  have pc : PenAt (((w3.alloc (.cells #[.slice none 0 0] 27)).alloc (.cells #[.slice none 0 0] 27)).alloc (.cells #[.slice none 0 0] 27)) (w3.heap.size + 1 + 1) none [] := by
    simpa using PenAt.new ((w3.alloc (.cells #[.slice none 0 0] 27)).alloc (.cells #[.slice none 0 0] 27))
  have hlen := sy3.2.1
  have hlenz := sz.2.1
  go_wp2_with fail
  go_loopw [21] (fun i wr => ∃ (k : Nat) (ra rc : Option Nat), k ≤ ys.length ∧ i = .int .i64 k ∧ PenAt wr w3.heap.size ra (lays (ys.take k)) ∧ PenAt wr (w3.heap.size + 1) none [] ∧ PenAt wr (w3.heap.size + 1 + 1) rc (lays (ys.take k)) ∧
      Hid (Ap w3.heap.size ra (w3.heap.size + 1 + 1) rc ∧ Ge (w3.heap.size + 3) ra ∧ Ge (w3.heap.size + 3) rc) ∧ Below w3.heap.size w3 wr ∧ w3.heap.size + 3 ≤ wr.heap.size) (fun i _ => ys.length - (intOf i).toNat)
  case atStart => exact ⟨0, none, none, Nat.zero_le _, rfl, pa, pb, pc, Lib.hid ⟨⟨by omega, by simp, by simp, by simp⟩, Ge.none_ _, Ge.none_ _⟩, hx3, by simp⟩
  case round =>
    obtain ⟨k, ra, rc, hk, rfl, qa, qb, qc, hap, hbr, hsz⟩ := hrel
    clear pa pb pc hx3
    by_cases hlt : k < ys.length
    · have syr := sy3.ext hbr
      obtain ⟨oy, rfl, d0, d1, d2, d3⟩ := syr.1.at_ hlt
      obtain ⟨y, hy⟩ : ∃ y, y = ys[k] := ⟨_, rfl⟩
      rw [← hy] at d0 d1 d2 d3
      have hyin : FV.In wr y := syr.1.2 y (by rw [hy]; exact List.getElem_mem hlt)
      have hyb : y.f.b.length ≤ 40 := syr.2.2 y (by rw [hy]; exact List.getElem_mem hlt)
      have hy3 : y.f.b ≠ [] → y.b < w3.heap.size := Bs.lt (sy3.1.2 y (by rw [hy]; exact List.getElem_mem hlt)).1
      have HY := Lib.hid (show lays (ys.take (k + 1)) = lays (ys.take k) ++ layF y.f by rw [hy]; exact lays_take ys k hlt)
      have hll := lays_take_len syr k
      have hxw : Below wr.heap.size wr (wr.alloc (.cells #[.int .u8 (y.f.kind : Int), .int .u64 (y.f.n : Int), .slice y.A y.f.b.length y.c, .int .u64 (y.f.most : Int)] 30)) := (Below.refl _ _).alloc (Nat.le_refl _) _
      have hbx0 := heap_alloc_new wr (.cells #[.int .u8 (y.f.kind : Int), .int .u64 (y.f.n : Int), .slice y.A y.f.b.length y.c, .int .u64 (y.f.most : Int)] 30)
      have HB0 := Lib.hid hbx0
      clear hy syr hbx0
      go_wp2_with fail
      refine (lay_calls _ _ _ y _ (qa.ext hxw) (hyin.ext hxw) (fun h => ⟨by have := hy3 h; omega, fun e => by have := hap.out.2.1 _ e; have := hy3 h; omega⟩) (by skip; omega)).mono ?_
      rintro e w4 ⟨rfl, ra', qa', sa⟩
      have hra := qa.row_lt
      have hrc := qc.row_lt
      have hglc := qc.lt
      have hsz0 : (wr.alloc (.cells #[.int .u8 (y.f.kind : Int), .int .u64 (y.f.n : Int), .slice y.A y.f.b.length y.c, .int .u64 (y.f.most : Int)] 30)).heap.size = wr.heap.size + 1 := by simp
      have hbx4 := (sa.2.block wr.heap.size (by rw [hsz0]; omega) (fun h => by rcases h with h | h; omega; have := hra _ h; omega)).trans HB0.out
      obtain ⟨x0, x1, x2, x3⟩ := box_cells hbx4
      have qc4 := (qc.ext hxw).far sa hap.out.1
      have hap4 := Ap.step hap.out.1 sa (by rw [hsz0]; omega) (fun q hq => by rw [hsz0]; have := hrc q hq; omega)
      have hra4 := Ge.step hap.out.2.1 sa (by rw [hsz0]; omega)
      have hf0 := sa.frame (B := w3.heap.size) (by omega) (fun q hq => by have := hap.out.2.1 q hq; omega) (by rw [hsz0]; omega)
      have hb4 : Below w3.heap.size w3 w4 := (hbr.trans (hxw.mono (by omega))).trans hf0
      have hsz4 : wr.heap.size + 1 ≤ w4.heap.size := by rw [← hsz0]; exact sa.2.size
      have hyin4 : FV.In w4 y := ⟨Bs.modne (hyin.ext hxw).1 (Mod.of_below hf0) (fun h => by have := hy3 h; omega), hyin.2⟩
      have qb4 := (qb.ext hxw).mod sa.2 (by rintro (h | h); omega; have := hap.out.2.1 _ h; omega) (fun k hk => by cases hk)
      clear qb
      have SA := Lib.hid sa
      have HAP := Lib.hid hap4
      have HRA := Lib.hid hra4
      have HRC := Lib.hid hap.out.2.2
      clear hbx4 HB0 hf0 hxw qa qc hbr hap hyin hra hrc hap4 hra4 sa d0 d1 d2 d3
      go_wp2_with fail
      refine (lay_calls _ _ _ y _ qc4 hyin4 (fun h => ⟨by have := hy3 h; omega, fun e => by have := HRC.out _ e; have := hy3 h; omega⟩) (by skip; omega)).mono ?_
      rintro e w5 ⟨rfl, rc', qc', sc⟩
      have hra' := qa'.row_lt
      have qa5 := qa'.far sc HAP.out.symm
      have hap5 := (Ap.step HAP.out.symm sc qa'.lt hra').symm
      have hrc5 := Ge.step HRC.out sc (by omega)
      have hb5' : Below w3.heap.size w3 w5 := hb4.trans (sc.frame (by omega) (fun q hq => by have := HRC.out q hq; omega) (by omega))
      have hsz5 : w3.heap.size + 3 ≤ w5.heap.size := by have := sc.2.size; omega
      have qb5 := qb4.mod sc.2 (by rintro (h | h); omega; have := HRC.out _ h; omega) (fun k hk => by cases hk)
      clear qb4
      clear x0 x1 x2 x3 hyin4 qc4
      go_wp2_with fail
      go_roundw
      case rel => exact ⟨k + 1, ra', rc', by omega, by go_num, qa5.cast HY.out.symm, qb5, qc'.cast HY.out.symm, Lib.hid ⟨hap5, HRA.out, hrc5⟩, hb5', hsz5⟩
      case measure => simp [intOf]; omega
    · have hke : k = ys.length := by omega
      rw [hke, List.take_of_length_le (Nat.le_refl _)] at qa qc
      clear hke hk
      have hly := lays_take_len sy3 ys.length
      rw [List.take_of_length_le (Nat.le_refl _)] at hly
      go_wp2_with fail
      obtain ⟨W, hW⟩ : ∃ W : World, W = wr := ⟨_, rfl⟩
      subst hW
      go_loopw [32] (fun i wr => ∃ (k : Nat) (rb rc' : Option Nat), k ≤ zs.length ∧ i = .int .i64 k ∧ PenAt wr w3.heap.size ra (lays ys) ∧ PenAt wr (w3.heap.size + 1) rb (lays (zs.take k)) ∧ PenAt wr (w3.heap.size + 1 + 1) rc' (lays ys ++ lays (zs.take k)) ∧
        Hid (Ap (w3.heap.size + 1) rb (w3.heap.size + 1 + 1) rc' ∧ Ap w3.heap.size ra (w3.heap.size + 1) rb ∧ Ap w3.heap.size ra (w3.heap.size + 1 + 1) rc' ∧ Ge (w3.heap.size + 3) rb ∧ Ge (w3.heap.size + 3) rc') ∧ Below w3.heap.size w3 wr ∧ w3.heap.size + 3 ≤ wr.heap.size) (fun i _ => zs.length - (intOf i).toNat)
      case atStart =>
        have hrae := hap.out.2.1
        have hrce := hap.out.2.2
        refine ⟨0, none, rc, Nat.zero_le _, rfl, qa, qb, qc.cast (by simp [lays]), Lib.hid ⟨⟨by omega, by simp, fun e => by have := hrce _ e; omega, by simp⟩, ⟨by omega, fun e => by have := hrae _ e; omega, by simp, fun q _ => by simp⟩, hap.out.1, Ge.none_ _, hrce⟩, hbr, hsz⟩
      case round =>
        obtain ⟨k, rb, rc', hk, rfl, qa, qb, qc, hap, hbr, hsz⟩ := hrel
        by_cases hlt : k < zs.length
        · have syr := sz.ext hbr
          obtain ⟨oy, rfl, d0, d1, d2, d3⟩ := syr.1.at_ hlt
          obtain ⟨y, hy⟩ : ∃ y, y = zs[k] := ⟨_, rfl⟩
          rw [← hy] at d0 d1 d2 d3
          have hyin : FV.In wr y := syr.1.2 y (by rw [hy]; exact List.getElem_mem hlt)
          have hyb : y.f.b.length ≤ 40 := syr.2.2 y (by rw [hy]; exact List.getElem_mem hlt)
          have hy3 : y.f.b ≠ [] → y.b < w3.heap.size := Bs.lt (sz.1.2 y (by rw [hy]; exact List.getElem_mem hlt)).1
          have HY := Lib.hid (show lays (zs.take (k + 1)) = lays (zs.take k) ++ layF y.f by rw [hy]; exact lays_take zs k hlt)
          have hll := lays_take_len syr k
          have hxw : Below wr.heap.size wr (wr.alloc (.cells #[.int .u8 (y.f.kind : Int), .int .u64 (y.f.n : Int), .slice y.A y.f.b.length y.c, .int .u64 (y.f.most : Int)] 30)) := (Below.refl _ _).alloc (Nat.le_refl _) _
          have hbx0 := heap_alloc_new wr (.cells #[.int .u8 (y.f.kind : Int), .int .u64 (y.f.n : Int), .slice y.A y.f.b.length y.c, .int .u64 (y.f.most : Int)] 30)
          have HB0 := Lib.hid hbx0
          clear hy syr hbx0
          go_wp2_with fail
          refine (lay_calls _ _ _ y _ (qb.ext hxw) (hyin.ext hxw) (fun h => ⟨by have := hy3 h; omega, fun e => by have := hap.out.2.2.2.1 _ e; have := hy3 h; omega⟩) (by skip; omega)).mono ?_
          rintro e w4 ⟨rfl, ra', qa', sa⟩
          have hra := qb.row_lt
          have hrc := qc.row_lt
          have hglc := qc.lt
          have hsz0 : (wr.alloc (.cells #[.int .u8 (y.f.kind : Int), .int .u64 (y.f.n : Int), .slice y.A y.f.b.length y.c, .int .u64 (y.f.most : Int)] 30)).heap.size = wr.heap.size + 1 := by simp
          have hbx4 := (sa.2.block wr.heap.size (by rw [hsz0]; omega) (fun h => by rcases h with h | h; omega; have := hra _ h; omega)).trans HB0.out
          obtain ⟨x0, x1, x2, x3⟩ := box_cells hbx4
          have qc4 := (qc.ext hxw).far sa hap.out.1
          have hap4 := Ap.step hap.out.1 sa (by rw [hsz0]; omega) (fun q hq => by rw [hsz0]; have := hrc q hq; omega)
          have hra4 := Ge.step hap.out.2.2.2.1 sa (by rw [hsz0]; omega)
          have hf0 := sa.frame (B := w3.heap.size) (by omega) (fun q hq => by have := hap.out.2.2.2.1 q hq; omega) (by rw [hsz0]; omega)
          have hb4 : Below w3.heap.size w3 w4 := (hbr.trans (hxw.mono (by omega))).trans hf0
          have hsz4 : wr.heap.size + 1 ≤ w4.heap.size := by rw [← hsz0]; exact sa.2.size
          have hyin4 : FV.In w4 y := ⟨Bs.modne (hyin.ext hxw).1 (Mod.of_below hf0) (fun h => by have := hy3 h; omega), hyin.2⟩
          have hqalt := qa.row_lt
          have hqag := qa.lt
          have qa4 := (qa.ext hxw).far sa hap.out.2.1.symm
          have hapab := (Ap.step hap.out.2.1.symm sa (by rw [hsz0]; omega) (fun q hq => by rw [hsz0]; have := hqalt q hq; omega)).symm
          have HAB := Lib.hid hapab
          have HAC := Lib.hid hap.out.2.2.1
          clear qa hapab
          have SA := Lib.hid sa
          have HAP := Lib.hid hap4
          have HRA := Lib.hid hra4
          have HRC := Lib.hid hap.out.2.2.2.2
          clear hbx4 HB0 hf0 hxw qb qc hbr hap hyin hra hrc hap4 hra4 sa d0 d1 d2 d3
          go_wp2_with fail
          refine (lay_calls _ _ _ y _ qc4 hyin4 (fun h => ⟨by have := hy3 h; omega, fun e => by have := HRC.out _ e; have := hy3 h; omega⟩) (by simp only [List.length_append]; omega)).mono ?_
          rintro e w5 ⟨rfl, rc', qc', sc⟩
          have hra' := qa'.row_lt
          have qa5 := qa'.far sc HAP.out.symm
          have hap5 := (Ap.step HAP.out.symm sc qa'.lt hra').symm
          have hrc5 := Ge.step HRC.out sc (by omega)
          have hb5' : Below w3.heap.size w3 w5 := hb4.trans (sc.frame (by omega) (fun q hq => by have := HRC.out q hq; omega) (by omega))
          have hsz5 : w3.heap.size + 3 ≤ w5.heap.size := by have := sc.2.size; omega
          have hq4lt := qa4.row_lt
          have qz5 := qa4.far sc HAC.out.symm
          have hapac := (Ap.step HAC.out.symm sc qa4.lt hq4lt).symm
          clear qa4
          clear x0 x1 x2 x3 hyin4 qc4
          go_wp2_with fail
          go_roundw
          case rel => exact ⟨k + 1, ra', rc', by omega, by go_num, qz5, qa5.cast HY.out.symm, qc'.cast (by rw [HY.out, List.append_assoc]), Lib.hid ⟨hap5, HAB.out, hapac, HRA.out, hrc5⟩, hb5', hsz5⟩
          case measure => simp [intOf]; omega
        · have hke : k = zs.length := by omega
          rw [hke, List.take_of_length_le (Nat.le_refl _)] at qb qc
          clear hke hk
          have hlz := lays_take_len sz zs.length
          rw [List.take_of_length_le (Nat.le_refl _)] at hlz
          have hbw : Below w.heap.size w wr := hb5.trans (hbr.mono hb5.size)
          clear hap hbr hsz
          go_wp2_with fail
          refine (PenBytes_calls _ _ _ _ qa (by omega)).mono ?_
          rintro e w6 ⟨va, rfl, rowa, hb6⟩
          have qb6 := qb.ext hb6
          have qc6 := qc.ext hb6
          have hbw6 := hbw.trans (hb6.mono hbw.size)
          obtain ⟨Aa, ca, ba, rfl, _, _, _, _, sa, _⟩ := rowa.sl
          clear qa qb qc hbw hb6 rowa
          go_wp2_with fail
          refine (PenBytes_calls _ _ _ _ qb6 (by omega)).mono ?_
          rintro e w7 ⟨vb, rfl, rowb, hb7⟩
          have sa7 := Sl.ext sa hb7
          have qc7 := qc6.ext hb7
          have hbw7 := hbw6.trans (hb7.mono hbw6.size)
          obtain ⟨Ab, cb, bb, rfl, _, _, _, _, sb, _⟩ := rowb.sl
          clear qb6 qc6 hbw6 hb7 rowb sa
          go_wp2_with fail
          have hj : Below w7.heap.size w7 (w7.alloc (.cells #[.slice Aa (lays ys).length ca, .slice Ab (lays zs).length cb] 25)) := (Below.refl _ _).alloc (Nat.le_refl _) _
          refine (Join_calls _ [.slice Aa (lays ys).length ca, .slice Ab (lays zs).length cb] [lays ys, lays zs] 2 2 w7.heap.size _ (Sl.cells_new w7 _ _) ((Bss.cons sa7 rfl (Bss.cons sb rfl (Bss.nil_ _))).ext hj) rfl (by simp [maxLen]) (by simp; omega)).mono ?_
          rintro e w8 ⟨v8, rfl, row8, hb8⟩
          have row8 := row8.cast (show [lays ys, lays zs].flatten = lays ys ++ lays zs by simp)
          have qc8 := (qc7.ext hj).ext hb8
          have hbw8 := (hbw7.trans (hj.mono hbw7.size)).trans (hb8.mono (by have := hbw7.size; simp; omega))
          obtain ⟨A8, c8, b8, rfl, _, _, _, _, s8, _⟩ := row8.sl
          obtain ⟨X, hX⟩ : ∃ X, X = lays ys ++ lays zs := ⟨_, rfl⟩
          rw [← hX] at qc8 s8
          rw [← hX]
          have hXl : X.length ≤ 1200 := by rw [hX, List.length_append]; omega
          clear sa7 sb qc7 hj hbw7 hb8 row8 hX
          go_wp2_with fail
          refine (PenBytes_calls _ _ _ _ qc8 (by omega)).mono ?_
          rintro e w9 ⟨v9, rfl, row9, hb9⟩
          have s9 := Sl.ext s8 hb9
          have hbw9 := hbw8.trans (hb9.mono hbw8.size)
          obtain ⟨A9, c9, b9, rfl, _, _, _, _, t9, _⟩ := row9.sl
          clear qc8 s8 hbw8 hb9 row9
          go_wp2_with fail
          refine (Same_calls _ _ X X X.length X.length _ _ _ _ _ s9 t9 rfl rfl (by simp only [maxLen]; omega) (by simp only [maxLen]; omega)).mono ?_
          rintro e w10 ⟨rfl, kk, rfl⟩
          rw [show decide (X = X) = true by simp]
          have s10 := Sl.drewN s9 kk
          have hbw10 := below_drewN hbw9 kk
          clear s9 t9 hbw9
          go_wp2_with fail
          refine (Read_calls _ _ _ _ _ _ s10 rfl (by omega)).mono ?_
          rintro e w11 ⟨g11, b11, rfl, e11, _, _, hb11⟩
          have hbw11 := hbw10.trans (hb11.mono hbw10.size)
          clear s10 hbw10 hb11
          go_wp2_with fail
          refine (Left_calls _ _ _ _ _ e11).mono ?_
          rintro e w12 ⟨rfl, rfl⟩
          clear e11
          go_wp2_with fail
          go_ret
          exact ⟨rfl, hbw11⟩
end Go.Proofs.Ytokjkbbijfiloaa
