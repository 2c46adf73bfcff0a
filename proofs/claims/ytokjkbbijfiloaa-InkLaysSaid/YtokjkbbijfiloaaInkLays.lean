/- InkLays: for every l the Go text returns true: fields are laid as the document says, and are read again, one by one, to the end. No condition. -/
import Derived.Test.YtokjkbbijfiloaaInkTakes
import Derived.Test.YtokjkbbijfiloaaLike
import Derived.Test.YtokjkbbijfiloaaAwake
import Derived.Test.YtokjkbbijfiloaaNumLaw
namespace Go.Proofs.Ytokjkbbijfiloaa
open Go.RowKit

/-- What a field is asked for, when it is read again. -/
def askF (f : Fld) : Fld := ⟨f.kind, f.n, f.b, if f.kind % 5 = 4 then 40 else 18446744073709551615⟩
theorem take_again (f : Fld) (rest : List UInt8) (hf : f.Ok) (hb : f.b.length ≤ 40) : ∃ y, takeF (layF f ++ rest) (askF f) = some (y, rest) := by
  obtain ⟨k, n, bl, most⟩ := f
  obtain ⟨hk8, hn, hmo⟩ := hf
  simp only at hn hb
  have hk5 : k % 5 = 0 ∨ k % 5 = 1 ∨ k % 5 = 2 ∨ k % 5 = 3 ∨ k % 5 = 4 := by omega
  rcases hk5 with h | h | h | h | h
  · have e : layF ⟨k, n, bl, most⟩ = low n 1 := by simp [layF, h]
    rw [e]
    refine ⟨⟨k, valN ((low n 1 ++ rest).take 1), [], 18446744073709551615⟩, ?_⟩
    unfold askF
    simp only
    rw [if_neg (show ¬ k % 5 = 4 by omega)]
    rw [takeF]
    simp only
    rw [if_pos h, if_neg (by simp)]
    rw [List.drop_left' (by simp)]
  · have e : layF ⟨k, n, bl, most⟩ = low n 2 := by simp [layF, h]
    rw [e]
    refine ⟨⟨k, valN ((low n 2 ++ rest).take 2), [], 18446744073709551615⟩, ?_⟩
    unfold askF
    simp only
    rw [if_neg (show ¬ k % 5 = 4 by omega)]
    rw [takeF]
    simp only
    rw [if_neg (by omega), if_pos h, if_neg (by simp)]
    rw [List.drop_left' (by simp)]
  · have e : layF ⟨k, n, bl, most⟩ = low n 4 := by simp [layF, h]
    rw [e]
    refine ⟨⟨k, valN ((low n 4 ++ rest).take 4), [], 18446744073709551615⟩, ?_⟩
    unfold askF
    simp only
    rw [if_neg (show ¬ k % 5 = 4 by omega)]
    rw [takeF]
    simp only
    rw [if_neg (by omega), if_neg (by omega), if_pos h, if_neg (by simp)]
    rw [List.drop_left' (by simp)]
  · have e : layF ⟨k, n, bl, most⟩ = num n := by simp [layF, h]
    rw [e]
    refine ⟨⟨k, n, [], 18446744073709551615⟩, ?_⟩
    have h1 := take3_some (l := num n ++ rest) (n := n) (bl := bl) (most := 18446744073709551615) (by omega) (by omega) (by omega) h (rd_num n rest hn) hn
    rw [List.drop_left' rfl] at h1
    unfold askF
    simp only
    rw [if_neg (by omega)]
    exact h1
  · have e : layF ⟨k, n, bl, most⟩ = num bl.length ++ bl := by simp [layF, h]
    rw [e]
    refine ⟨⟨k, 0, bl, 40⟩, ?_⟩
    have hr := rd_num bl.length (bl ++ rest) (by omega)
    have hbB : rdBlob (num bl.length ++ (bl ++ rest)) 40 = some (bl, rest) := by
      unfold rdBlob
      rw [hr]
      simp only
      rw [List.drop_left' rfl, if_pos ⟨hb, by simp⟩, List.take_left' rfl, List.drop_left' rfl]
    have h1 := take4_some (n := n) (bl := bl) (by omega) (by omega) (by omega) (show ¬ k % 5 = 3 by omega) hbB
    unfold askF
    simp only
    rw [if_pos h, List.append_assoc]
    exact h1
theorem askF_ok {f : Fld} (hf : f.Ok) : (askF f).Ok ∧ ((askF f).kind % 5 = 4 → (askF f).most ≤ 9223372036854775807) := by
  unfold askF
  refine ⟨⟨hf.1, hf.2.1, ?_⟩, fun h => ?_⟩
  · simp only; split <;> omega
  · simp only at h ⊢; rw [if_pos h]; omega
theorem lays_drop (ys : List FV) (k : Nat) (h : k < ys.length) : lays (ys.drop k) = layF ys[k].f ++ lays (ys.drop (k + 1)) := by
  rw [List.drop_eq_getElem_cons h]
  simp only [lays, List.map_cons, List.flatten_cons]
theorem lays_drop_len {w : World} {b : Nat} {A : Option Addr} {ys : List FV} (h : Short w b A ys) (k : Nat) : (lays (ys.drop k)).length ≤ 600 := by
  have h1 := lays_len (ys.drop k) (fun y hy => h.2.2 y (List.mem_of_mem_drop hy))
  have h2 : (ys.drop k).length ≤ 12 := by rw [List.length_drop]; have := h.2.1; omega
  omega

set_option maxHeartbeats 4000000 in
set_option maxRecDepth 20000 in
theorem InkLays_walk (A1 : Option Addr) (fs1 : List FV) (n1 c1 b1 : Nat) (w : World) (hs1 : FldsIn w b1 A1 fs1) (hl1 : fs1.length = n1) (hm1 : n1 ≤ maxLen) :
    Calls Try.prog 3 #[.slice A1 n1 c1] w fun e w' => e = .returned (.bool true) ∧ Below w.heap.size w w' := by
  have H1 := Lib.hid hl1
  have M1 := Lib.hid hm1
  clear hl1 hm1
  go_enter Try.func3, Try.ntmps3
  go_wp2_with fail
  refine (awake_calls _).mono ?_
  rintro e w1 ⟨rfl, hb1⟩
  go_wp2_with fail
  refine (few_calls A1 fs1 n1 c1 b1 _ (hs1.ext hb1) H1.out M1.out).mono ?_
  rintro e w3 ⟨v, ys, rfl, hm, hr, hin, hb4⟩
  obtain ⟨Ay, cy, by_, rfl, sy⟩ := Short.of_few hm hr hin
  have hb5 := hb1.trans (hb4.mono hb1.size)
  clear hm hr hin hb1 hb4 hs1
  have hx3 : Below w3.heap.size w3 (w3.alloc (.cells #[.slice none 0 0] 27)) := (Below.refl _ _).alloc (Nat.le_refl _) _
  have hylen := sy.2.1
  go_wp2_with fail
  go_loopw [4, 21] (fun v i wr => ∃ (k : Nat) (rp AW : Option Addr) (cW bW : Nat) (rq : Option Nat), k ≤ ys.length ∧ i = .int .i64 k ∧ PenAt wr w3.heap.size rq (lays (ys.take k)) ∧ v = .slice AW (lays (ys.take k)).length cW ∧ Bs wr bW AW (lays (ys.take k)) ∧ (lays (ys.take k)).length ≤ cW ∧ cW ≤ maxLen ∧
      Hid (lays (ys.take k) ≠ [] → bW ≠ w3.heap.size ∧ rq ≠ some bW) ∧ Hid (Ge (w3.heap.size + 1) rq) ∧ Below w3.heap.size w3 wr ∧ w3.heap.size + 1 ≤ wr.heap.size) (fun _ i _ => ys.length - (intOf i).toNat)
  case atStart => exact ⟨0, none, none, 0, 0, none, Nat.zero_le _, rfl, PenAt.new w3, rfl, Sl.nil_ _ _ _, by simp [lays], by simp [maxLen], Lib.hid (by simp [lays]), Lib.hid (Ge.none_ _), hx3, by simp⟩
  case round =>
    obtain ⟨k, _, AW, cW, bW, rq, hk, rfl, qp, rfl, qw, hwc, hwm, hfar, hge, hbr, hsz⟩ := hrel
    have hll := lays_take_len sy k
    by_cases hlt : k < ys.length
    · have syr := sy.ext hbr
      obtain ⟨oy, rfl, d0, d1, d2, d3⟩ := syr.1.at_ hlt
      obtain ⟨y, hy⟩ : ∃ y, y = ys[k] := ⟨_, rfl⟩
      rw [← hy] at d0 d1 d2 d3
      have hyin : FV.In wr y := syr.1.2 y (by rw [hy]; exact List.getElem_mem hlt)
      have hyb : y.f.b.length ≤ 40 := syr.2.2 y (by rw [hy]; exact List.getElem_mem hlt)
      have hy3 : y.f.b ≠ [] → y.b < w3.heap.size := Bs.lt (sy.1.2 y (by rw [hy]; exact List.getElem_mem hlt)).1
      have HY := Lib.hid (show lays (ys.take (k + 1)) = lays (ys.take k) ++ layF y.f by rw [hy]; exact lays_take ys k hlt)
      have hll2 := lays_take_len sy (k + 1)
      have hxw : Below wr.heap.size wr (wr.alloc (.cells #[.int .u8 (y.f.kind : Int), .int .u64 (y.f.n : Int), .slice y.A y.f.b.length y.c, .int .u64 (y.f.most : Int)] 30)) := (Below.refl _ _).alloc (Nat.le_refl _) _
      have HB0 := Lib.hid (heap_alloc_new wr (.cells #[.int .u8 (y.f.kind : Int), .int .u64 (y.f.n : Int), .slice y.A y.f.b.length y.c, .int .u64 (y.f.most : Int)] 30))
      have hsz0 : (wr.alloc (.cells #[.int .u8 (y.f.kind : Int), .int .u64 (y.f.n : Int), .slice y.A y.f.b.length y.c, .int .u64 (y.f.most : Int)] 30)).heap.size = wr.heap.size + 1 := by simp
      obtain ⟨L, hL⟩ : ∃ L, L = lays (ys.take k) := ⟨_, rfl⟩
      rw [← hL] at qp qw hwc hfar hll ⊢
      have HLK := Lib.hid hL
      clear hy syr hL
      go_wp2_with fail
      refine (lay_calls _ _ _ y _ (qp.ext hxw) (hyin.ext hxw) (fun h => ⟨by have := hy3 h; omega, fun e => by have := hge.out _ e; have := hy3 h; omega⟩) (by omega)).mono ?_
      rintro e w4 ⟨rfl, rq', qp4, sa⟩
      have hrq := qp.row_lt
      have hbx4 := (sa.2.block wr.heap.size (by rw [hsz0]; omega) (fun h => by rcases h with h | h; omega; have := hrq _ h; omega)).trans HB0.out
      obtain ⟨x0, x1, x2, x3⟩ := box_cells hbx4
      have qw4 : Bs w4 bW AW L := Bs.modne (Sl.ext qw hxw) sa.2 (fun h => by have h1 := hfar.out h; rintro (h2 | h2); exact h1.1 h2; exact h1.2 h2)
      have hge4 := Ge.step hge.out sa (by rw [hsz0]; omega)
      have hf0 := sa.frame (B := w3.heap.size) (by omega) (fun q hq => by have := hge.out q hq; omega) (by rw [hsz0]; omega)
      have hb4 : Below w3.heap.size w3 w4 := (hbr.trans (hxw.mono (by omega))).trans hf0
      have hsz4 : wr.heap.size + 1 ≤ w4.heap.size := by rw [← hsz0]; exact sa.2.size
      have hyin4 : FV.In w4 y := ⟨Bs.modne (hyin.ext hxw).1 (Mod.of_below hf0) (fun h => by have := hy3 h; omega), hyin.2⟩
      have HGE := Lib.hid hge4
      clear hbx4 HB0 hf0 hxw qp qw hfar hge hbr hyin hrq sa d0 d1 d2 d3 hge4 hsz0
      go_wp2_with fail
      refine (Lay_calls y.f y.A y.c y.b _ hyin4.2.1 hyin4.1 (by omega)).mono ?_
      rintro e w5 ⟨v5, rfl, r5, hb5'⟩
      obtain ⟨A5, c5, b5, rfl, _, _, _, _, s5, _⟩ := r5.sl
      have qw5 := Sl.ext qw4 hb5'
      have qp5 := qp4.ext hb5'
      have hb6 := hb4.trans (hb5'.mono hb4.size)
      have hsz5 := hb5'.size
      clear qw4 qp4 hb4 hb5' r5 x0 x1 x2 x3 hyin4
      go_wp2_with fail
      have hj : Below w5.heap.size w5 (w5.alloc (.cells #[.slice AW L.length cW, .slice A5 (layF y.f).length c5] 25)) := (Below.refl _ _).alloc (Nat.le_refl _) _
      refine (Join_calls _ [.slice AW L.length cW, .slice A5 (layF y.f).length c5] [L, layF y.f] 2 2 w5.heap.size _ (Sl.cells_new w5 _ _) ((Bss.cons qw5 rfl (Bss.cons s5 rfl (Bss.nil_ _))).ext hj) rfl (by simp [maxLen]) (by have h1 := layF_len y.f hyb; simp; omega)).mono ?_
      rintro e w6 ⟨v6, rfl, r6, hb7⟩
      have r6 := r6.cast (show [L, layF y.f].flatten = lays (ys.take (k + 1)) by rw [HY.out, HLK.out]; simp)
      obtain ⟨A6, c6, b6, rfl, h6c, h6m, _, h6b, s6, _⟩ := r6.sl
      have qp6 := ((qp5.ext hj).ext hb7).cast (show L ++ layF y.f = lays (ys.take (k + 1)) by rw [HY.out, HLK.out])
      have hrq6 := (qp5.ext hj).row_lt
      have hgl6 := (qp5.ext hj).lt
      have hb8 : Below w3.heap.size w3 w6 := (hb6.trans (hj.mono hb6.size)).trans (hb7.mono (by have := hb6.size; simp; omega))
      have hjs : (w5.alloc (.cells #[.slice AW L.length cW, .slice A5 (layF y.f).length c5] 25)).heap.size = w5.heap.size + 1 := by simp
      have hfar6 := Lib.hid (show lays (ys.take (k + 1)) ≠ [] → b6 ≠ w3.heap.size ∧ rq' ≠ some b6 from fun _ => ⟨fun e => absurd (Nat.lt_of_lt_of_le hgl6 h6b) (by rw [e]; exact Nat.lt_irrefl _), fun e => absurd (Nat.lt_of_lt_of_le (hrq6 _ e) h6b) (Nat.lt_irrefl _)⟩)
      have hsz6 := hb7.size
      have hsz6' : w5.heap.size ≤ w6.heap.size := Nat.le_trans hj.size hsz6
      clear qw5 qp5 hj hb7 r6 s5 hb6 hrq6 hgl6 hsz6
      go_wp2_with fail
      go_roundw
      case rel => exact ⟨k + 1, none, A6, c6, b6, rq', by omega, by go_num, qp6, rfl, s6, h6c, h6m, hfar6, HGE, hb8, by omega⟩
      case measure => simp [intOf]; omega
    · have hke : k = ys.length := by omega
      subst hke
      rw [List.take_of_length_le (Nat.le_refl _)] at qp qw hwc hfar hll ⊢
      obtain ⟨L, hL⟩ : ∃ L, L = lays ys := ⟨_, rfl⟩
      rw [← hL] at qp qw hwc hfar hll ⊢
      have HL := Lib.hid hL
      clear hL hfar hge hsz hlt hk
      go_wp2_with fail
      refine (PenBytes_calls _ _ _ _ qp (by omega)).mono ?_
      rintro e w4 ⟨v4, rfl, r4, hb4⟩
      obtain ⟨A4, c4, b4, rfl, _, _, _, _, s4, _⟩ := r4.sl
      have qw4 := Sl.ext qw hb4
      have hb6 : Below w3.heap.size w3 w4 := hbr.trans (hb4.mono hbr.size)
      clear qp qw hbr hb4 r4
      go_wp2_with fail
      refine (Same_calls _ _ L L L.length L.length _ _ _ _ _ s4 qw4 rfl rfl (by simp only [maxLen]; omega) (by simp only [maxLen]; omega)).mono ?_
      rintro e wB ⟨rfl, hkk⟩
      rw [show decide (L = L) = true by simp]
      have hdb : Below w4.heap.size w4 wB := by obtain ⟨kk, rfl⟩ := hkk; exact below_drewN (Below.refl _ _) kk
      have sB := Sl.ext s4 hdb
      have qB := Sl.ext qw4 hdb
      have hb7 : Below w3.heap.size w3 wB := hb6.trans (hdb.mono hb6.size)
      clear hkk hdb s4 qw4 hb6
      go_wp2_with fail
      refine (Read_calls A4 L L.length c4 b4 _ sB rfl (by omega)).mono ?_
      rintro e wA ⟨ge, be, rfl, he, hge, hbe, hb8⟩
      have qA := Sl.ext qB hb8
      have HB8 := Lib.hid hb8
      have HB7 := Lib.hid hb7
      have hgl := he.lt
      have hbl : L ≠ [] → be < wA.heap.size := by obtain ⟨_, A', c', _, _, _, hs⟩ := he; exact Bs.lt hs
      have hbW := Bs.lt qB
      have hw3B : w3.heap.size ≤ wB.heap.size := hb7.size
      have hwBA : wB.heap.size ≤ wA.heap.size := hb8.size
      clear sB qB hb8 hb7
      go_wp2_with fail
      go_loopw [4, 42] (fun pv i wr => ∃ (k : Nat) (AP : Option Addr) (cP : Nat), k ≤ ys.length ∧ i = .int .i64 k ∧ pv = .slice AP (lays (ys.drop k)).length cP ∧ Bs wr bW AP (lays (ys.drop k)) ∧ (lays (ys.drop k)).length ≤ cP ∧ cP ≤ 9223372036854775807 ∧ EyeAt wr ge be (lays (ys.drop k)) false ∧
        Hid (lays (ys.drop k) ≠ [] → bW < wB.heap.size ∧ be < wA.heap.size) ∧ Mod (fun i => i = ge) wA wr) (fun _ i _ => ys.length - (intOf i).toNat)
      case atStart => exact ⟨0, AW, cW, Nat.zero_le _, rfl, by rw [List.drop_zero, HL.out], by rw [List.drop_zero, ← HL.out]; exact qA, by rw [List.drop_zero, ← HL.out]; exact hwc, by unfold maxLen at hwm; omega, by rw [List.drop_zero, ← HL.out]; exact he, Lib.hid (by rw [List.drop_zero, ← HL.out]; exact fun h => ⟨hbW h, hbl h⟩), Mod.refl _ _⟩
      case round =>
        obtain ⟨k, AP, cP, hk, rfl, rfl, qp, hpc1, hpc2, qe, hlts, hmod⟩ := hrel
        have hbr : Below w3.heap.size w3 wr := HB7.out.trans ((HB8.out.mono hw3B).trans (hmod.below (by omega) (fun i hi h => by omega)))
        have hlen6 := lays_drop_len sy k
        by_cases hlt2 : k < ys.length
        · have syr := sy.ext hbr
          obtain ⟨oy, rfl, d0, d1, d2, d3⟩ := syr.1.at_ hlt2
          obtain ⟨y, hy⟩ : ∃ y, y = ys[k] := ⟨_, rfl⟩
          rw [← hy] at d0 d1 d2 d3
          have hyok : y.f.Ok := (syr.1.2 y (by rw [hy]; exact List.getElem_mem hlt2)).2.1
          have hyb : y.f.b.length ≤ 40 := syr.2.2 y (by rw [hy]; exact List.getElem_mem hlt2)
          obtain ⟨t, htk⟩ := take_again y.f (lays (ys.drop (k + 1))) hyok hyb
          rw [show layF y.f ++ lays (ys.drop (k + 1)) = lays (ys.drop k) by rw [hy]; exact (lays_drop ys k hlt2).symm] at htk
          obtain ⟨hao, ha63⟩ := askF_ok hyok
          obtain ⟨pl, hpl⟩ : ∃ pl, pl = lays (ys.drop k) := ⟨_, rfl⟩
          rw [← hpl] at qp hpc1 qe hlts htk hlen6 ⊢
          obtain ⟨r', hr'⟩ : ∃ r', r' = lays (ys.drop (k + 1)) := ⟨_, rfl⟩
          rw [← hr'] at htk
          have HR := Lib.hid hr'
          have hger := qe.lt
          clear hy syr hyb hpl hr' hbr
          by_cases h4 : y.f.kind % 5 = 4
          · have HIF := Lib.hid (if_pos h4 : (if y.f.kind % 5 = 4 then (40 : Nat) else 18446744073709551615) = 40)
            have hao : Fld.Ok ⟨y.f.kind, y.f.n, y.f.b, 40⟩ := by have h := hao; unfold askF at h; rwa [HIF.out] at h
            have ha63 : y.f.kind % 5 = 4 → 40 ≤ 9223372036854775807 := by have h := ha63; unfold askF at h; simp only at h; rwa [HIF.out] at h
            have htk : takeF pl ⟨y.f.kind, y.f.n, y.f.b, 40⟩ = some (t, r') := by have h := htk; unfold askF at h; rwa [HIF.out] at h
            have HAO := Lib.hid hao
            have HA63 := Lib.hid ha63
            have HTK := Lib.hid htk
            clear hao ha63 htk
            have hxw : Below wr.heap.size wr (wr.alloc (.cells #[.int .u8 (y.f.kind : Int), .int .u64 (y.f.n : Int), .slice y.A y.f.b.length y.c, .int .u64 (40)] 30)) := (Below.refl _ _).alloc (Nat.le_refl _) _
            have HB0 := Lib.hid (heap_alloc_new wr (.cells #[.int .u8 (y.f.kind : Int), .int .u64 (y.f.n : Int), .slice y.A y.f.b.length y.c, .int .u64 (40)] 30))
            have HSZ := Lib.hid (show (wr.alloc (.cells #[.int .u8 (y.f.kind : Int), .int .u64 (y.f.n : Int), .slice y.A y.f.b.length y.c, .int .u64 (40)] 30)).heap.size = wr.heap.size + 1 by simp)
            go_wp2_with fail
            refine (take_calls ge be pl false ⟨y.f.kind, y.f.n, y.f.b, 40⟩ y.A y.c _ (qe.ext hxw) HAO.out HA63.out).mono ?_
            rintro e w5 ⟨A', c', rfl, st, he5, hm5⟩
            obtain ⟨h1, h2, h3⟩ := told_some HTK.out
            have hto := told_ok pl HAO.out
            have hleft := leftF_len pl ⟨y.f.kind, y.f.n, y.f.b, 40⟩
            rw [h1] at st hto ⊢
            rw [h2, h3] at he5
            rw [h2] at hleft
            obtain ⟨x0, x1, x2, x3⟩ := box_cells ((hm5.block wr.heap.size (by rw [HSZ.out]; omega) (by omega)).trans HB0.out)
            have hsz5 : wr.heap.size + 1 ≤ w5.heap.size := by rw [← HSZ.out]; exact hm5.size
            have qp5 : Bs w5 bW AP pl := Bs.modne (Sl.ext qp hxw) hm5 (fun h => by have := (hlts.out h).1; omega)
            have hmod5 : Mod (fun i => i = ge) wA w5 := hmod.trans ((Mod.of_below hxw).trans hm5 (S := fun i => i = ge ∨ wr.heap.size ≤ i) (fun i _ h => .inr h) (fun i _ h => .inl h)) (fun i _ h => h) (fun i hi h => by have := hmod.size; omega)
            have hwA5 : wA.heap.size ≤ w5.heap.size := hmod5.size
            clear qe hxw hm5 d0 d1 d2 d3 HB0 qp hmod h1 h2 h3
            obtain ⟨tk, tn, tb, tm⟩ := t
            obtain ⟨htok, hk1, hk2, htb⟩ := hto
            simp only at hk1 hk2 htb st
            subst hk1
            subst hk2
            clear htok
            have y0 := cell_alloc (o := (.cells #[.int .u8 (y.f.kind : Int), .int .u64 (tn : Int), .slice A' tb.length c', .int .u64 40] 30)) x0
            have y1 := cell_alloc (o := (.cells #[.int .u8 (y.f.kind : Int), .int .u64 (tn : Int), .slice A' tb.length c', .int .u64 40] 30)) x1
            have y2 := cell_alloc (o := (.cells #[.int .u8 (y.f.kind : Int), .int .u64 (tn : Int), .slice A' tb.length c', .int .u64 40] 30)) x2
            have y3 := cell_alloc (o := (.cells #[.int .u8 (y.f.kind : Int), .int .u64 (tn : Int), .slice A' tb.length c', .int .u64 40] 30)) x3
            have hx7 : Below w5.heap.size w5 (w5.alloc (.cells #[.int .u8 (y.f.kind : Int), .int .u64 (tn : Int), .slice A' tb.length c', .int .u64 40] 30)) := (Below.refl _ _).alloc (Nat.le_refl _) _
            have HX7 := Lib.hid (heap_alloc_new w5 (.cells #[.int .u8 (y.f.kind : Int), .int .u64 (tn : Int), .slice A' tb.length c', .int .u64 40] 30))
            have HS7 := Lib.hid (show (w5.alloc (.cells #[.int .u8 (y.f.kind : Int), .int .u64 (tn : Int), .slice A' tb.length c', .int .u64 40] 30)).heap.size = w5.heap.size + 1 by simp)
            have qp7 : Bs (w5.alloc (.cells #[.int .u8 (y.f.kind : Int), .int .u64 (tn : Int), .slice A' tb.length c', .int .u64 40] 30)) bW AP pl := Sl.ext qp5 hx7
            have st7 : Bs (w5.alloc (.cells #[.int .u8 (y.f.kind : Int), .int .u64 (tn : Int), .slice A' tb.length c', .int .u64 40] 30)) be A' tb := Sl.ext st hx7
            have he7 := he5.ext hx7
            have hmod7 : Mod (fun i => i = ge) wA (w5.alloc (.cells #[.int .u8 (y.f.kind : Int), .int .u64 (tn : Int), .slice A' tb.length c', .int .u64 40] 30)) := hmod5.trans (Mod.of_below hx7) (fun i _ h => h) (fun i hi h => by have := hmod5.size; omega)
            have htne := Lib.hid (show tb ≠ [] → pl ≠ [] from fun h h0 => h (by rw [h0] at htb; exact List.eq_nil_of_length_eq_zero (by simpa using htb)))
            have hrne := Lib.hid (show r' ≠ [] → pl ≠ [] from fun h h0 => h (by rw [h0] at hleft; exact List.eq_nil_of_length_eq_zero (by simpa using hleft)))
            clear x0 x1 x2 x3 qp5 st he5 hmod5 hx7
            go_wp2_with fail
            refine (Take_calls AP pl pl.length cP bW ⟨y.f.kind, y.f.n, y.f.b, 40⟩ y.A y.c _ qp7 rfl hpc1 (by unfold maxLen; omega) HAO.out (by omega)).mono ?_
            rintro e w8 ⟨Az, cz, AR, cR, bt, rfl, sz, sR, hRc, hRm, hb8, hbt⟩
            obtain ⟨h1, h2, h3⟩ := told_some HTK.out
            rw [h1] at sz hbt ⊢
            rw [h2] at hRc sR ⊢
            rw [HTK.out]
            simp only [Option.isSome_some]
            simp only at sz hbt
            rw [HS7.out] at hbt
            have HBT := Lib.hid hbt
            unfold maxLen at hRm
            have hX8 := (hb8.block _ (by rw [HS7.out]; omega)).trans HX7.out
            have hl8 : w5.heap.size + 1 ≤ w8.heap.size := by rw [← HS7.out]; exact hb8.size
            have st8 := Sl.ext st7 hb8
            have he8 := he7.ext hb8
            have hmod8 : Mod (fun i => i = ge) wA w8 := hmod7.trans (Mod.of_below hb8) (fun i _ h => h) (fun i hi h => by have := hmod7.size; omega)
            have hsm : tb.length ≤ 1000000 := by omega
            have hz9 : Below w8.heap.size w8 (w8.alloc (.cells #[.int .u8 (y.f.kind : Int), .int .u64 (tn : Int), .slice Az tb.length cz, .int .u64 40] 30)) := (Below.refl _ _).alloc (Nat.le_refl _) _
            obtain ⟨q0, q1, q2, q3⟩ := box_cells ((hz9.block _ (by omega)).trans hX8)
            have he9' := he8.ext hz9
            have st9 := Sl.ext st8 hz9
            have sz9 := Sl.ext sz hz9
            have sR9 := Sl.ext sR hz9
            have hmod9' : Mod (fun i => i = ge) wA _ := hmod8.trans (Mod.of_below hz9) (fun i _ h => h) (fun i hi h => by have := hmod8.size; omega)
            clear h1 h2 h3 hbt st7 he7 hb8 hmod7 y0 y1 y2 y3 qp7 he8 hmod8 hX8 sz sR st8 hz9
            go_wp2_with fail
            refine (like_calls ⟨⟨y.f.kind, tn, tb, 40⟩, A', c', be⟩ ⟨⟨y.f.kind, tn, tb, 40⟩, Az, cz, bt⟩ _ st9 sz9 (by simp only; omega) (by simp only; omega)).mono ?_
            rintro e w9 ⟨rfl, hb9⟩
            rw [show Alike2 (FV.f ⟨⟨y.f.kind, tn, tb, 40⟩, A', c', be⟩) (FV.f ⟨⟨y.f.kind, tn, tb, 40⟩, Az, cz, bt⟩) = true by simp [Alike2]]
            have he9 := he9'.ext hb9
            have sR10 := Sl.ext sR9 hb9
            have hmod9 : Mod (fun i => i = ge) wA w9 := hmod9'.trans (Mod.of_below hb9) (fun i _ h => h) (fun i hi h => absurd (Nat.le_trans hmod9'.size h) (by omega))
            clear hb9 he9' hmod9' st9 sz9 sR9 q0 q1 q2 q3
            go_wp2_with fail
            refine (Left_calls _ _ _ _ _ he9).mono ?_
            rintro e w10 ⟨rfl, rfl⟩
            go_wp2_with fail
            go_roundw
            case rel => exact ⟨k + 1, AR, cR, by omega, by go_num, by rw [HR.out], by rw [← HR.out]; exact sR10, by rw [← HR.out]; exact hRc, by omega, by rw [← HR.out]; exact he9, Lib.hid (by rw [← HR.out]; exact fun h => hlts.out (hrne.out h)), hmod9⟩
            case measure => simp [intOf]; omega
          · have HIF := Lib.hid (if_neg h4 : (if y.f.kind % 5 = 4 then (40 : Nat) else 18446744073709551615) = 18446744073709551615)
            have hao : Fld.Ok ⟨y.f.kind, y.f.n, y.f.b, 18446744073709551615⟩ := by have h := hao; unfold askF at h; rwa [HIF.out] at h
            have ha63 : y.f.kind % 5 = 4 → 18446744073709551615 ≤ 9223372036854775807 := by have h := ha63; unfold askF at h; simp only at h; rwa [HIF.out] at h
            have htk : takeF pl ⟨y.f.kind, y.f.n, y.f.b, 18446744073709551615⟩ = some (t, r') := by have h := htk; unfold askF at h; rwa [HIF.out] at h
            have HAO := Lib.hid hao
            have HA63 := Lib.hid ha63
            have HTK := Lib.hid htk
            clear hao ha63 htk
            have hxw : Below wr.heap.size wr (wr.alloc (.cells #[.int .u8 (y.f.kind : Int), .int .u64 (y.f.n : Int), .slice y.A y.f.b.length y.c, .int .u64 (18446744073709551615)] 30)) := (Below.refl _ _).alloc (Nat.le_refl _) _
            have HB0 := Lib.hid (heap_alloc_new wr (.cells #[.int .u8 (y.f.kind : Int), .int .u64 (y.f.n : Int), .slice y.A y.f.b.length y.c, .int .u64 (18446744073709551615)] 30))
            have HSZ := Lib.hid (show (wr.alloc (.cells #[.int .u8 (y.f.kind : Int), .int .u64 (y.f.n : Int), .slice y.A y.f.b.length y.c, .int .u64 (18446744073709551615)] 30)).heap.size = wr.heap.size + 1 by simp)
            go_wp2_with fail
            refine (take_calls ge be pl false ⟨y.f.kind, y.f.n, y.f.b, 18446744073709551615⟩ y.A y.c _ (qe.ext hxw) HAO.out HA63.out).mono ?_
            rintro e w5 ⟨A', c', rfl, st, he5, hm5⟩
            obtain ⟨h1, h2, h3⟩ := told_some HTK.out
            have hto := told_ok pl HAO.out
            have hleft := leftF_len pl ⟨y.f.kind, y.f.n, y.f.b, 18446744073709551615⟩
            rw [h1] at st hto ⊢
            rw [h2, h3] at he5
            rw [h2] at hleft
            obtain ⟨x0, x1, x2, x3⟩ := box_cells ((hm5.block wr.heap.size (by rw [HSZ.out]; omega) (by omega)).trans HB0.out)
            have hsz5 : wr.heap.size + 1 ≤ w5.heap.size := by rw [← HSZ.out]; exact hm5.size
            have qp5 : Bs w5 bW AP pl := Bs.modne (Sl.ext qp hxw) hm5 (fun h => by have := (hlts.out h).1; omega)
            have hmod5 : Mod (fun i => i = ge) wA w5 := hmod.trans ((Mod.of_below hxw).trans hm5 (S := fun i => i = ge ∨ wr.heap.size ≤ i) (fun i _ h => .inr h) (fun i _ h => .inl h)) (fun i _ h => h) (fun i hi h => by have := hmod.size; omega)
            have hwA5 : wA.heap.size ≤ w5.heap.size := hmod5.size
            clear qe hxw hm5 d0 d1 d2 d3 HB0 qp hmod h1 h2 h3
            obtain ⟨tk, tn, tb, tm⟩ := t
            obtain ⟨htok, hk1, hk2, htb⟩ := hto
            simp only at hk1 hk2 htb st
            subst hk1
            subst hk2
            clear htok
            have y0 := cell_alloc (o := (.cells #[.int .u8 (y.f.kind : Int), .int .u64 (tn : Int), .slice A' tb.length c', .int .u64 18446744073709551615] 30)) x0
            have y1 := cell_alloc (o := (.cells #[.int .u8 (y.f.kind : Int), .int .u64 (tn : Int), .slice A' tb.length c', .int .u64 18446744073709551615] 30)) x1
            have y2 := cell_alloc (o := (.cells #[.int .u8 (y.f.kind : Int), .int .u64 (tn : Int), .slice A' tb.length c', .int .u64 18446744073709551615] 30)) x2
            have y3 := cell_alloc (o := (.cells #[.int .u8 (y.f.kind : Int), .int .u64 (tn : Int), .slice A' tb.length c', .int .u64 18446744073709551615] 30)) x3
            have hx7 : Below w5.heap.size w5 (w5.alloc (.cells #[.int .u8 (y.f.kind : Int), .int .u64 (tn : Int), .slice A' tb.length c', .int .u64 18446744073709551615] 30)) := (Below.refl _ _).alloc (Nat.le_refl _) _
            have HX7 := Lib.hid (heap_alloc_new w5 (.cells #[.int .u8 (y.f.kind : Int), .int .u64 (tn : Int), .slice A' tb.length c', .int .u64 18446744073709551615] 30))
            have HS7 := Lib.hid (show (w5.alloc (.cells #[.int .u8 (y.f.kind : Int), .int .u64 (tn : Int), .slice A' tb.length c', .int .u64 18446744073709551615] 30)).heap.size = w5.heap.size + 1 by simp)
            have qp7 : Bs (w5.alloc (.cells #[.int .u8 (y.f.kind : Int), .int .u64 (tn : Int), .slice A' tb.length c', .int .u64 18446744073709551615] 30)) bW AP pl := Sl.ext qp5 hx7
            have st7 : Bs (w5.alloc (.cells #[.int .u8 (y.f.kind : Int), .int .u64 (tn : Int), .slice A' tb.length c', .int .u64 18446744073709551615] 30)) be A' tb := Sl.ext st hx7
            have he7 := he5.ext hx7
            have hmod7 : Mod (fun i => i = ge) wA (w5.alloc (.cells #[.int .u8 (y.f.kind : Int), .int .u64 (tn : Int), .slice A' tb.length c', .int .u64 18446744073709551615] 30)) := hmod5.trans (Mod.of_below hx7) (fun i _ h => h) (fun i hi h => by have := hmod5.size; omega)
            have htne := Lib.hid (show tb ≠ [] → pl ≠ [] from fun h h0 => h (by rw [h0] at htb; exact List.eq_nil_of_length_eq_zero (by simpa using htb)))
            have hrne := Lib.hid (show r' ≠ [] → pl ≠ [] from fun h h0 => h (by rw [h0] at hleft; exact List.eq_nil_of_length_eq_zero (by simpa using hleft)))
            clear x0 x1 x2 x3 qp5 st he5 hmod5 hx7
            go_wp2_with fail
            refine (Take_calls AP pl pl.length cP bW ⟨y.f.kind, y.f.n, y.f.b, 18446744073709551615⟩ y.A y.c _ qp7 rfl hpc1 (by unfold maxLen; omega) HAO.out (by omega)).mono ?_
            rintro e w8 ⟨Az, cz, AR, cR, bt, rfl, sz, sR, hRc, hRm, hb8, hbt⟩
            obtain ⟨h1, h2, h3⟩ := told_some HTK.out
            rw [h1] at sz hbt ⊢
            rw [h2] at hRc sR ⊢
            rw [HTK.out]
            simp only [Option.isSome_some]
            simp only at sz hbt
            rw [HS7.out] at hbt
            have HBT := Lib.hid hbt
            unfold maxLen at hRm
            have hX8 := (hb8.block _ (by rw [HS7.out]; omega)).trans HX7.out
            have hl8 : w5.heap.size + 1 ≤ w8.heap.size := by rw [← HS7.out]; exact hb8.size
            have st8 := Sl.ext st7 hb8
            have he8 := he7.ext hb8
            have hmod8 : Mod (fun i => i = ge) wA w8 := hmod7.trans (Mod.of_below hb8) (fun i _ h => h) (fun i hi h => by have := hmod7.size; omega)
            have hsm : tb.length ≤ 1000000 := by omega
            have hz9 : Below w8.heap.size w8 (w8.alloc (.cells #[.int .u8 (y.f.kind : Int), .int .u64 (tn : Int), .slice Az tb.length cz, .int .u64 18446744073709551615] 30)) := (Below.refl _ _).alloc (Nat.le_refl _) _
            obtain ⟨q0, q1, q2, q3⟩ := box_cells ((hz9.block _ (by omega)).trans hX8)
            have he9' := he8.ext hz9
            have st9 := Sl.ext st8 hz9
            have sz9 := Sl.ext sz hz9
            have sR9 := Sl.ext sR hz9
            have hmod9' : Mod (fun i => i = ge) wA _ := hmod8.trans (Mod.of_below hz9) (fun i _ h => h) (fun i hi h => by have := hmod8.size; omega)
            clear h1 h2 h3 hbt st7 he7 hb8 hmod7 y0 y1 y2 y3 qp7 he8 hmod8 hX8 sz sR st8 hz9
            go_wp2_with fail
            refine (like_calls ⟨⟨y.f.kind, tn, tb, 18446744073709551615⟩, A', c', be⟩ ⟨⟨y.f.kind, tn, tb, 18446744073709551615⟩, Az, cz, bt⟩ _ st9 sz9 (by simp only; omega) (by simp only; omega)).mono ?_
            rintro e w9 ⟨rfl, hb9⟩
            rw [show Alike2 (FV.f ⟨⟨y.f.kind, tn, tb, 18446744073709551615⟩, A', c', be⟩) (FV.f ⟨⟨y.f.kind, tn, tb, 18446744073709551615⟩, Az, cz, bt⟩) = true by simp [Alike2]]
            have he9 := he9'.ext hb9
            have sR10 := Sl.ext sR9 hb9
            have hmod9 : Mod (fun i => i = ge) wA w9 := hmod9'.trans (Mod.of_below hb9) (fun i _ h => h) (fun i hi h => absurd (Nat.le_trans hmod9'.size h) (by omega))
            clear hb9 he9' hmod9' st9 sz9 sR9 q0 q1 q2 q3
            go_wp2_with fail
            refine (Left_calls _ _ _ _ _ he9).mono ?_
            rintro e w10 ⟨rfl, rfl⟩
            go_wp2_with fail
            go_roundw
            case rel => exact ⟨k + 1, AR, cR, by omega, by go_num, by rw [HR.out], by rw [← HR.out]; exact sR10, by rw [← HR.out]; exact hRc, by omega, by rw [← HR.out]; exact he9, Lib.hid (by rw [← HR.out]; exact fun h => hlts.out (hrne.out h)), hmod9⟩
            case measure => simp [intOf]; omega
        · have hke : k = ys.length := by omega
          subst hke
          rw [List.drop_length] at qe
          have hb9 := hb5.trans (hbr.mono hb5.size)
          clear qp hmod hbr hlts
          go_wp2_with fail
          refine (Done_calls _ _ _ _ _ qe).mono ?_
          rintro e w9 ⟨rfl, rfl⟩
          rw [show doneErr (lays []) false = 0 by simp [doneErr, lays]]
          go_wp2_with fail
          go_ret
          exact ⟨rfl, hb9⟩
end Go.Proofs.Ytokjkbbijfiloaa
