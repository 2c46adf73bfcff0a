/- The eye's methods: what each call reads off the front, and when it isn't right any more; only the eye's own block turns. -/
import Derived.Test.YtgpedkdebifooaaDoorPen
namespace Go.Proofs.YtgpedkdebifooaaDoor
open Go.RowKit

/-- An eye in block g: what is left is l, its bytes in block b; has it been wrong? -/
def EyeAt (w : World) (g b : Nat) (l : List UInt8) (wr : Bool) : Prop :=
  b ≠ g ∧ ∃ A c, w.heap[g]? = some (.cells #[.slice A l.length c, .bool wr] 164 (0, 0)) ∧ l.length ≤ c ∧ c ≤ maxLen ∧ Bs w b A l

theorem EyeAt.lt {w : World} {g b : Nat} {l : List UInt8} {wr : Bool} (h : EyeAt w g b l wr) : g < w.heap.size := by
  obtain ⟨_, A, c, hg, _⟩ := h
  exact (Array.getElem?_eq_some_iff.1 hg).1
theorem EyeAt.mod {w w' : World} {g b : Nat} {l : List UInt8} {wr : Bool} (h : EyeAt w g b l wr) {S : Nat → Prop} (hm : Mod S w w') (hg : ¬ S g) (hb : ¬ S b) : EyeAt w' g b l wr := by
  obtain ⟨hne, A, c, h1, h2, h3, h4⟩ := h
  exact ⟨hne, A, c, by rw [hm.block g (Array.getElem?_eq_some_iff.1 h1).1 hg]; exact h1, h2, h3, Sl.mod h4 hm hb⟩
theorem EyeAt.ext {w w' : World} {g b : Nat} {l : List UInt8} {wr : Bool} (h : EyeAt w g b l wr) (hm : Below w.heap.size w w') : EyeAt w' g b l wr := by
  have hlt := h.lt
  obtain ⟨hne, A, c, h1, h2, h3, h4⟩ := h
  exact ⟨hne, A, c, by rw [hm.block g hlt]; exact h1, h2, h3, Sl.ext h4 hm⟩

/-- A cell of two, written. -/
theorem eye_set0 {w : World} {g : Nat} {u v x : Value} (hg : w.heap[g]? = some (.cells #[u, v] 164 (0, 0))) : (w.setCell ⟨g, 0, none⟩ x).heap[g]? = some (.cells #[x, v] 164 (0, 0)) := by
  rw [heap_setCell_same w g 0 _ _ x hg]; rfl
theorem eye_set1 {w : World} {g : Nat} {u v x : Value} (hg : w.heap[g]? = some (.cells #[u, v] 164 (0, 0))) : (w.setCell ⟨g, 1, none⟩ x).heap[g]? = some (.cells #[u, x] 164 (0, 0)) := by
  rw [heap_setCell_same w g 1 _ _ x hg]; rfl

theorem eye_store {w : World} {g b : Nat} {u : Value} {wr : Bool} {A : Option Addr} {l : List UInt8} {n c : Nat} (hne : b ≠ g) (hg : w.heap[g]? = some (.cells #[u, .bool wr] 164 (0, 0))) (hs : Bs w b A l) (hn : l.length = n) (h1 : n ≤ c) (h2 : c ≤ maxLen) : EyeAt (w.setCell ⟨g, 0, none⟩ (.slice A n c)) g b l wr := by
  subst hn
  exact ⟨hne, A, c, eye_set0 hg, h1, h2, Sl.setCell hs hne _⟩

set_option maxHeartbeats 400000 in
theorem fail_calls (g b : Nat) (l : List UInt8) (wr : Bool) (w : World) (he : EyeAt w g b l wr) :
    Calls Tryd.prog 91 #[.pointer (some ⟨g, 0, none⟩)] w fun e w' => e = .returned (.tuple #[]) ∧ EyeAt w' g b [] true ∧ Mod (fun i => i = g) w w' := by
  obtain ⟨hne, A, c, hg, _, _, _⟩ := he
  have hc0 := cell_of_row w g 0 _ _ _ hg
  have hc1 := cell_of_row w g 1 _ _ _ hg
  have hf0 := frozen_of_row w g 0 _ _ hg
  have hf1 := frozen_of_row w g 1 _ _ hg
  simp only [List.getElem?_toArray, List.getElem?_cons_zero, List.getElem?_cons_succ] at hc0 hc1
  have HG := Lib.hid hg
  clear hg
  go_enter Tryd.func91, Tryd.ntmps91
  go_wp2
  go_end0
  refine ⟨rfl, ⟨hne, none, 0, eye_set1 (eye_set0 HG.out), Nat.le_refl _, by simp [maxLen], Sl.nil_ _ _ _⟩, ?_⟩
  exact (Mod.setCell w _ _).trans (Mod.setCell _ _ _) (fun i _ h => h) (fun i _ h => h)

set_option maxHeartbeats 400000 in
theorem take_no (g b : Nat) (l : List UInt8) (wr : Bool) (k : Int) (w : World) (he : EyeAt w g b l wr) (hk : (l.length : Int) < k) :
    Calls Tryd.prog 85 #[.pointer (some ⟨g, 0, none⟩), .int .i64 k] w fun e w' => e = .returned (.slice none 0 0) ∧ EyeAt w' g b [] true ∧ Mod (fun i => i = g) w w' := by
  have he0 := he
  obtain ⟨hne, A, c, hg, _, _, _⟩ := he
  have hc0 := cell_of_row w g 0 _ _ _ hg
  simp only [List.getElem?_toArray, List.getElem?_cons_zero] at hc0
  clear hg
  go_enter Tryd.func85, Tryd.ntmps85
  go_wp2_with (go_at_call 91; refine (fail_calls g b l wr _ he0).mono ?_; rintro e w1 ⟨rfl, h1, h2⟩)
  go_ret
  exact ⟨rfl, h1, h2⟩

set_option maxHeartbeats 400000 in
theorem take_yes (g b : Nat) (l : List UInt8) (wr : Bool) (k : Nat) (w : World) (he : EyeAt w g b l wr) (hk : k ≤ l.length) :
    Calls Tryd.prog 85 #[.pointer (some ⟨g, 0, none⟩), .int .i64 k] w fun e w' => ∃ A', e = .returned (.slice A' k k) ∧ Bs w' b A' (l.take k) ∧ EyeAt w' g b (l.drop k) wr ∧ Mod (fun i => i = g) w w' := by
  obtain ⟨hne, A, c, hg, hlc, hcm, hs⟩ := he
  unfold maxLen at hcm
  have hc0 := cell_of_row w g 0 _ _ _ hg
  have hf0 := frozen_of_row w g 0 _ _ hg
  simp only [List.getElem?_toArray, List.getElem?_cons_zero] at hc0
  have HG := Lib.hid hg
  clear hg
  go_enter Tryd.func85, Tryd.ntmps85
  go_wp2_with fail
  · go_ret
    have h : c = k := by assumption
    have hd := hs.drop (k := k) (by simpa using hlc)
    rw [bv_drop, if_pos h] at hd
    exact ⟨A, rfl, by have := Sl.take hs k; rw [bv_take] at this; exact Sl.setCell this hne _, eye_store hne HG.out hd (by simp) (by omega) (Nat.zero_le _), Mod.setCell w ⟨g, 0, none⟩ _⟩
  · go_ret
    have h : ¬ c = k := by assumption
    have hd := hs.drop (k := k) (by simpa using hlc)
    rw [bv_drop, if_neg h] at hd
    exact ⟨A, rfl, by have := Sl.take hs k; rw [bv_take] at this; exact Sl.setCell this hne _, eye_store hne HG.out hd (by simp) (by omega) (by unfold maxLen; omega), Mod.setCell w ⟨g, 0, none⟩ _⟩

theorem take_nil (k : Int) (w : World) : Calls Tryd.prog 85 #[.pointer none, .int .i64 k] w fun e w' => e = .returned (.slice none 0 0) ∧ w = w' := by
  have hf : Calls Tryd.prog 91 #[.pointer none] w fun e w' => e = .returned (.tuple #[]) ∧ w = w' := by
    go_enter Tryd.func91, Tryd.ntmps91
    go_wp2
    go_end0
    exact ⟨rfl, rfl⟩
  have HF := Lib.hid hf
  clear hf
  go_enter Tryd.func85, Tryd.ntmps85
  go_wp2_with (go_at_call 91; refine HF.out.mono ?_; rintro e w1 ⟨rfl, rfl⟩)
  go_ret
  exact ⟨rfl, rfl⟩

theorem valN_snoc (l : List UInt8) (x : UInt8) : valN (l ++ [x]) = valN l + 256 ^ l.length * x.toNat := by
  induction l with
  | nil => simp [valN]
  | cons y l ih => rw [List.cons_append, valN_cons, ih, valN_cons, List.length_cons, Nat.pow_succ, Nat.mul_add, Nat.mul_comm (256 ^ l.length) 256, Nat.mul_assoc]; omega
theorem valN_take_succ (l : List UInt8) (k : Nat) (h : k < l.length) : valN (l.take (k + 1)) = valN (l.take k) + 256 ^ k * l[k].toNat := by
  rw [List.take_succ_eq_append_getElem h, valN_snoc, List.length_take, Nat.min_eq_left (by omega)]

theorem or_add (m q i : Nat) (h : m < 2 ^ i) : m ||| (q * 2 ^ i) = m + q * 2 ^ i := by
  rw [Nat.or_comm, ← Nat.shiftLeft_eq, ← Nat.shiftLeft_add_eq_or_of_lt h, Nat.add_comm]
theorem u32_or_add (m q P i : Nat) (hP : P = 2 ^ i) (h : m < P) (hb : m + q * P < 4294967296) : bits .or .u32 (m : Int) ((q : Int) * (P : Int)) = ((m + q * P : Nat) : Int) := by
  have e : ((q : Int) * (P : Int)) = ((q * P : Nat) : Int) := by simp
  rw [e, u32_or_nat m (q * P) (by omega) (by omega)]
  subst hP
  rw [or_add _ _ _ h]

set_option maxHeartbeats 400000 in
theorem number_calls (A : Option Addr) (l : List UInt8) (n c b : Nat) (w : World) (hs : Bs w b A l) (hn : l.length = n) (h4 : n ≤ 4) :
    Calls Tryd.prog 84 #[.slice A n c] w fun e w' => e = .returned (.int .u32 (valN l : Nat)) ∧ w = w' := by
  have HN := Lib.hid hn
  clear hn
  go_enter Tryd.func84, Tryd.ntmps84
  go_wp2
  go_loop [3, 8] (fun x i => ∃ k m : Nat, k ≤ n ∧ i = .int .i64 k ∧ x = .int .u32 m ∧ Hid (m = valN (l.take k))) (fun _ i => n - (intOf i).toNat)
  case atStart => exact ⟨0, 0, Nat.zero_le _, rfl, rfl, Lib.hid rfl⟩
  case round =>
    obtain ⟨k, m, hk, rfl, rfl, hm⟩ := hrel
    by_cases hlt : k < n
    · have hkl : k < l.length := by rw [HN.out]; exact hlt
      obtain ⟨oa, rfl, hca⟩ := Bs.at_ hs hkl
      have ca := hca k hkl
      have hv := Lib.hid (valN_take_succ l k hkl)
      obtain ⟨q, hq⟩ : ∃ q, q = l[k] := ⟨_, rfl⟩
      rw [← hq] at ca
      have HQ := Lib.hid hq
      have hq8 := q.toNat_lt
      have hml := Lib.hid (valN_lt (l.take k))
      clear hca hq
      have hk4 : k = 0 ∨ k = 1 ∨ k = 2 ∨ k = 3 := by omega
      rcases hk4 with rfl | rfl | rfl | rfl
      · simp only [Nat.add_zero] at ca
        go_wp2
        have hb1 : m < 1 := by
          have h1 := hml.out
          rw [← hm.out] at h1
          refine Nat.lt_of_lt_of_le h1 (Nat.le_trans (Nat.pow_le_pow_right (by omega) (List.length_take_le 0 l)) (by decide))
        have e1 := u32_or_add m q.toNat 1 0 (by decide) hb1 (by omega)
        go_round
        case rel =>
          refine ⟨1, m + q.toNat * 1, by omega, rfl, by rw [← e1]; simp, Lib.hid ?_⟩
          rw [hv.out, ← hm.out, HQ.out]
          omega
        case measure => simp [intOf]; omega
      · go_wp2
        have hb1 : m < 256 := by
          have h1 := hml.out
          rw [← hm.out] at h1
          refine Nat.lt_of_lt_of_le h1 (Nat.le_trans (Nat.pow_le_pow_right (by omega) (List.length_take_le 1 l)) (by decide))
        have e1 := u32_or_add m q.toNat 256 8 (by decide) hb1 (by omega)
        go_round
        case rel =>
          refine ⟨2, m + q.toNat * 256, by omega, rfl, by rw [← e1]; rfl, Lib.hid ?_⟩
          rw [hv.out, ← hm.out, HQ.out]
          omega
        case measure => simp [intOf]; omega
      · go_wp2
        have hb1 : m < 65536 := by
          have h1 := hml.out
          rw [← hm.out] at h1
          refine Nat.lt_of_lt_of_le h1 (Nat.le_trans (Nat.pow_le_pow_right (by omega) (List.length_take_le 2 l)) (by decide))
        have e1 := u32_or_add m q.toNat 65536 16 (by decide) hb1 (by omega)
        go_round
        case rel =>
          refine ⟨3, m + q.toNat * 65536, by omega, rfl, by rw [← e1]; rfl, Lib.hid ?_⟩
          rw [hv.out, ← hm.out, HQ.out]
          omega
        case measure => simp [intOf]; omega
      · go_wp2
        have hb1 : m < 16777216 := by
          have h1 := hml.out
          rw [← hm.out] at h1
          refine Nat.lt_of_lt_of_le h1 (Nat.le_trans (Nat.pow_le_pow_right (by omega) (List.length_take_le 3 l)) (by decide))
        have e1 := u32_or_add m q.toNat 16777216 24 (by decide) hb1 (by omega)
        go_round
        case rel =>
          refine ⟨4, m + q.toNat * 16777216, by omega, rfl, by rw [← e1]; rfl, Lib.hid ?_⟩
          rw [hv.out, ← hm.out, HQ.out]
          omega
        case measure => simp [intOf]; omega
    · go_wp2
      go_ret
      rw [show k = n by omega, List.take_of_length_le (by rw [HN.out]; exact Nat.le_refl _)] at hm
      exact ⟨by rw [← hm.out]; rfl, rfl⟩

/-- What an eye's read of k fixed bytes says. -/
def ReadN (g b k : Nat) (l : List UInt8) (wr : Bool) (K : IntKind) (w : World) (e : Ending) (w' : World) : Prop :=
  (k ≤ l.length → e = .returned (.int K (valN (l.take k) : Nat)) ∧ EyeAt w' g b (l.drop k) wr ∧ Mod (fun i => i = g) w w') ∧
  (l.length < k → e = .returned (.int K 0) ∧ EyeAt w' g b [] true ∧ Mod (fun i => i = g) w w')

set_option maxHeartbeats 400000 in
theorem EyeByte_calls (g b : Nat) (l : List UInt8) (wr : Bool) (w : World) (he : EyeAt w g b l wr) :
    Calls Tryd.prog 60 #[.pointer (some ⟨g, 0, none⟩)] w (ReadN g b 1 l wr .u8 w) := by
  by_cases hk : 1 ≤ l.length
  · have hv := valN_lt (l.take 1)
    rw [List.length_take, Nat.min_eq_left hk] at hv
    go_enter Tryd.func60, Tryd.ntmps60
    go_wp2_with fail
    refine (take_yes g b l wr 1 _ he hk).mono ?_
    rintro e w1 ⟨A', rfl, hs, he1, hm⟩
    go_wp2_with fail
    refine (number_calls A' (l.take 1) 1 1 b _ hs (by simp; omega) (by omega)).mono ?_
    rintro e w2 ⟨rfl, rfl⟩
    go_wp2
    go_ret
    exact ⟨fun _ => ⟨rfl, he1, hm⟩, fun h => by omega⟩
  · go_enter Tryd.func60, Tryd.ntmps60
    go_wp2_with fail
    refine (take_no g b l wr 1 _ he (by omega)).mono ?_
    rintro e w1 ⟨rfl, he1, hm⟩
    go_wp2_with fail
    refine (number_calls none [] 0 0 b _ (Sl.nil_ _ _ _) rfl (by omega)).mono ?_
    rintro e w2 ⟨rfl, rfl⟩
    go_wp2
    go_ret
    exact ⟨fun h => by omega, fun _ => ⟨rfl, he1, hm⟩⟩

set_option maxHeartbeats 400000 in
theorem EyeHalf_calls (g b : Nat) (l : List UInt8) (wr : Bool) (w : World) (he : EyeAt w g b l wr) :
    Calls Tryd.prog 61 #[.pointer (some ⟨g, 0, none⟩)] w (ReadN g b 2 l wr .u16 w) := by
  by_cases hk : 2 ≤ l.length
  · have hv := valN_lt (l.take 2)
    rw [List.length_take, Nat.min_eq_left hk] at hv
    go_enter Tryd.func61, Tryd.ntmps61
    go_wp2_with fail
    refine (take_yes g b l wr 2 _ he hk).mono ?_
    rintro e w1 ⟨A', rfl, hs, he1, hm⟩
    go_wp2_with fail
    refine (number_calls A' (l.take 2) 2 2 b _ hs (by simp; omega) (by omega)).mono ?_
    rintro e w2 ⟨rfl, rfl⟩
    go_wp2
    go_ret
    exact ⟨fun _ => ⟨rfl, he1, hm⟩, fun h => by omega⟩
  · go_enter Tryd.func61, Tryd.ntmps61
    go_wp2_with fail
    refine (take_no g b l wr 2 _ he (by omega)).mono ?_
    rintro e w1 ⟨rfl, he1, hm⟩
    go_wp2_with fail
    refine (number_calls none [] 0 0 b _ (Sl.nil_ _ _ _) rfl (by omega)).mono ?_
    rintro e w2 ⟨rfl, rfl⟩
    go_wp2
    go_ret
    exact ⟨fun h => by omega, fun _ => ⟨rfl, he1, hm⟩⟩

set_option maxHeartbeats 400000 in
theorem EyeWord_calls (g b : Nat) (l : List UInt8) (wr : Bool) (w : World) (he : EyeAt w g b l wr) :
    Calls Tryd.prog 62 #[.pointer (some ⟨g, 0, none⟩)] w (ReadN g b 4 l wr .u32 w) := by
  by_cases hk : 4 ≤ l.length
  · go_enter Tryd.func62, Tryd.ntmps62
    go_wp2_with fail
    refine (take_yes g b l wr 4 _ he hk).mono ?_
    rintro e w1 ⟨A', rfl, hs, he1, hm⟩
    go_wp2_with fail
    refine (number_calls A' (l.take 4) 4 4 b _ hs (by simp; omega) (by omega)).mono ?_
    rintro e w2 ⟨rfl, rfl⟩
    go_wp2
    go_ret
    exact ⟨fun _ => ⟨rfl, he1, hm⟩, fun h => by omega⟩
  · go_enter Tryd.func62, Tryd.ntmps62
    go_wp2_with fail
    refine (take_no g b l wr 4 _ he (by omega)).mono ?_
    rintro e w1 ⟨rfl, he1, hm⟩
    go_wp2_with fail
    refine (number_calls none [] 0 0 b _ (Sl.nil_ _ _ _) rfl (by omega)).mono ?_
    rintro e w2 ⟨rfl, rfl⟩
    go_wp2
    go_ret
    exact ⟨fun h => by omega, fun _ => ⟨rfl, he1, hm⟩⟩
end Go.Proofs.YtgpedkdebifooaaDoor
