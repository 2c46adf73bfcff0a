/- Parts of one proof, in their order. -/
import Derived.Test.YtfckgfoimpileaaDoorZCodeForms02
/- The reference's Join: lists of bytes behind one another, in new memory; nothing that was there turns. Condition: the sum of the lengths fits. -/
namespace Go.Proofs.YtfckgfoimpileaaDoor
open Go.RowKit

/-- Values that are slices of bytes, and what they read as. -/
def Bss (w : World) (vs : List Value) (ls : List (List UInt8)) : Prop :=
  vs.length = ls.length ∧ ∀ (i : Nat) (l : List UInt8), ls[i]? = some l → ∃ A c b, vs[i]? = some (Value.slice A l.length c) ∧ Bs w b A l

theorem Bss.ext {w w' : World} {vs : List Value} {ls : List (List UInt8)} (h : Bss w vs ls) (hm : Below w.heap.size w w') : Bss w' vs ls :=
  ⟨h.1, fun i l hl => by
    obtain ⟨A, c, b, h1, h2⟩ := h.2 i l hl
    exact ⟨A, c, b, h1, Sl.ext h2 hm⟩⟩
theorem Bss.nil_ (w : World) : Bss w [] [] := ⟨rfl, fun i l h => by simp at h⟩
theorem Bss.cons {w : World} {vs : List Value} {ls : List (List UInt8)} {A : Option Addr} {l : List UInt8} {n c b : Nat} (h : Bs w b A l) (hn : l.length = n) (r : Bss w vs ls) : Bss w (Value.slice A n c :: vs) (l :: ls) :=
  ⟨by simp [r.1], fun i x hx => by
    cases i with
    | zero =>
      simp at hx
      subst hx
      exact ⟨A, c, b, by simp [hn], h⟩
    | succ i =>
      obtain ⟨A', c', b', h1, h2⟩ := r.2 i x (by simpa using hx)
      exact ⟨A', c', b', by simpa using h1, h2⟩⟩

theorem flatten_take_succ (ls : List (List UInt8)) (k : Nat) (h : k < ls.length) : (ls.take (k + 1)).flatten = (ls.take k).flatten ++ ls[k] := by
  rw [List.take_succ_eq_append_getElem h]
  simp only [List.flatten_append, List.flatten_cons, List.flatten_nil, List.append_nil]
theorem flatten_take_le (ls : List (List UInt8)) (k : Nat) : (ls.take k).flatten.length ≤ ls.flatten.length := by
  have : (ls.take k).flatten ++ (ls.drop k).flatten = ls.flatten := by rw [← List.flatten_append, List.take_append_drop]
  rw [← this]
  simp

set_option maxHeartbeats 400000 in
theorem Join_calls (A : Option Addr) (vs : List Value) (ls : List (List UInt8)) (n c b : Nat) (w : World) (hs : Sl w b A vs) (hv : Bss w vs ls) (hn : ls.length = n) (h1 : n ≤ maxLen) (h2 : ls.flatten.length ≤ 140737488355328) :
    Calls Tryd.prog 23 #[.slice A n c] w fun e w' => ∃ v, e = .returned v ∧ Row w' w.heap.size v ls.flatten ∧ Below w.heap.size w w' := by
  unfold maxLen at h1
  have HN := Lib.hid hn
  have HL := Lib.hid h2
  clear hn h2
  go_enter Tryd.func23, Tryd.ntmps23
  go_wp2
  go_loopw [3, 8] (fun v i wr => ∃ k : Nat, k ≤ n ∧ i = .int .i64 k ∧ Row wr w.heap.size v (ls.take k).flatten ∧ Below w.heap.size w wr) (fun _ i _ => n - (intOf i).toNat)
  case atStart => exact ⟨0, Nat.zero_le _, rfl, by simpa using Row.nil_ _ _, Below.refl _ _⟩
  case round =>
    obtain ⟨k, hk, rfl, hown, hb⟩ := hrel
    by_cases hlt : k < n
    · have hkl : k < ls.length := by rw [HN.out]; exact hlt
      obtain ⟨A1, c1, b1, hv1, hs1⟩ := (hv.ext hb).2 k ls[k] (List.getElem?_eq_getElem hkl)
      obtain ⟨oa, rfl, hca⟩ := (Sl.ext hs hb) (by rintro rfl; simp at hv1)
      have ca := hca k _ hv1
      have hbs : w.heap.size ≤ wr.heap.size := hb.size
      obtain ⟨q, hq⟩ : ∃ q, q = ls[k] := ⟨_, rfl⟩
      rw [← hq] at ca hs1
      have e1 := Lib.hid (flatten_take_succ ls k hkl)
      have hle : (ls.take k).flatten.length + q.length ≤ 140737488355328 := by
        have h3 := flatten_take_le ls (k + 1)
        have h4 := HL.out
        rw [e1.out, ← hq] at h3
        simp only [List.length_append] at h3
        omega
      have HQ := Lib.hid hq
      clear hca hv1 hq
      go_wp2_with (at_builtin; refine wpList_app wr rfl (.tmp 12) (.tmp 13) rfl w.heap.size _ _ rfl hown b1 A1 q.length c1 q rfl hs1 rfl hle hbs ?_; intro v' w1 hown' hmod _)
      go_roundw
      case rel => exact ⟨k + 1, by omega, by go_num, hown'.cast (by rw [e1.out, HQ.out]), hb.trans (hmod.below hbs (fun i hi hv => by have := (hown.lt i hv).1; omega))⟩
      case measure => simp [intOf]; omega
    · go_wp2
      go_ret
      refine ⟨_, rfl, hown.cast ?_, hb⟩
      have := HN.out
      rw [List.take_of_length_le (by omega)]
end Go.Proofs.YtfckgfoimpileaaDoor
/- The reference's Low and Value: a number's bytes, the lowest first, and back. Conditions: the numbers fit 64 bits. -/
namespace Go.Proofs.YtfckgfoimpileaaDoor
open Go.RowKit

def low (n k : Nat) : List UInt8 := (List.range k).map fun i => UInt8.ofNat (n / 256 ^ i)
theorem low_succ (n k : Nat) : low n (k + 1) = low n k ++ [UInt8.ofNat (n / 256 ^ k)] := by simp [low, List.range_succ]
@[simp] theorem low_length (n k : Nat) : (low n k).length = k := by simp [low]

set_option maxHeartbeats 400000 in
theorem Low_calls (n : Nat) (s : Int) (w : World) (hn : n ≤ 18446744073709551615) (h0 : 0 ≤ s) (h1 : s ≤ 1000) :
    Calls Tryd.prog 43 #[.int .u64 n, .int .i64 s] w fun e w' => ∃ v, e = .returned v ∧ Row w' w.heap.size v (low n s.toNat) ∧ Below w.heap.size w w' := by
  obtain ⟨t, rfl⟩ := Int.eq_ofNat_of_zero_le h0
  rw [Int.toNat_natCast]
  go_enter Tryd.func43, Tryd.ntmps43
  go_wp2
  go_loopw [0, 5, 6] (fun x v i wr => ∃ k m : Nat, k ≤ t ∧ i = .int .i64 k ∧ x = .int .u64 m ∧ Hid (m = n / 256 ^ k) ∧ m ≤ n ∧ Row wr w.heap.size v (low n k) ∧ Below w.heap.size w wr) (fun _ _ i _ => t - (intOf i).toNat)
  case atStart => exact ⟨0, n, Nat.zero_le _, rfl, rfl, Lib.hid (by simp), Nat.le_refl _, by simpa [low] using Row.nil_ _ _, Below.refl _ _⟩
  case round =>
    obtain ⟨k, m, hk, rfl, rfl, hm, hmn, hown, hb⟩ := hrel
    by_cases hlt : k < t
    · have hbs : w.heap.size ≤ wr.heap.size := hb.size
      have hle : (low n k).length + 1 ≤ 140737488355328 := by simp; omega
      have e2 := Lib.hid (u8_ofNat m)
      go_wp2_with (at_builtin; refine wpList_app1 wr rfl (.tmp 12) (.tmp 16) rfl w.heap.size _ _ rfl hown (UInt8.ofNat m) (by rw [e2.out]) rfl hle hbs ?_; intro v' w1 hown' hmod _)
      go_roundw
      case rel =>
        refine ⟨k + 1, m / 256, by omega, by go_num, by go_num, Lib.hid ?_, by omega, hown'.cast ?_, hb.trans (hmod.below hbs (fun i hi hv => by have := (hown.lt i hv).1; omega))⟩
        · rw [hm.out, Nat.div_div_eq_div_mul, Nat.pow_succ]
        · rw [low_succ, hm.out]
      case measure => simp [intOf]; omega
    · go_wp2
      go_ret
      refine ⟨_, rfl, hown.cast ?_, hb⟩
      rw [show k = t by omega]

def valN (l : List UInt8) : Nat := l.foldr (fun x acc => 256 * acc + x.toNat) 0
theorem valN_cons (x : UInt8) (l : List UInt8) : valN (x :: l) = 256 * valN l + x.toNat := rfl
theorem valN_lt (l : List UInt8) : valN l < 256 ^ l.length := by
  induction l with
  | nil => simp [valN]
  | cons x l ih =>
    rw [valN_cons, List.length_cons, Nat.pow_succ]
    have := x.toNat_lt
    omega
theorem valN_drop (l : List UInt8) (k : Nat) (h : k < l.length) : valN (l.drop k) = 256 * valN (l.drop (k + 1)) + l[k].toNat := by
  rw [List.drop_eq_getElem_cons h, valN_cons]

set_option maxHeartbeats 400000 in
theorem Value_calls (A : Option Addr) (l : List UInt8) (n c b : Nat) (w : World) (hs : Bs w b A l) (hn : l.length = n) (h8 : n ≤ 8) :
    Calls Tryd.prog 44 #[.slice A n c] w fun e w' => e = .returned (.int .u64 (valN l : Nat)) ∧ w = w' := by
  have HN := Lib.hid hn
  clear hn
  go_enter Tryd.func44, Tryd.ntmps44
  go_wp2
  go_loop [3, 4] (fun x i => ∃ k m : Nat, k ≤ n ∧ i = .int .i64 ((k : Int) - 1) ∧ x = .int .u64 m ∧ Hid (m = valN (l.drop k))) (fun _ i => (intOf i + 1).toNat)
  case atStart => exact ⟨n, 0, Nat.le_refl _, by go_num, rfl, Lib.hid (by rw [← HN.out, List.drop_length]; rfl)⟩
  case round =>
    obtain ⟨k, m, hk, rfl, rfl, hm⟩ := hrel
    by_cases hlt : 0 < k
    · obtain ⟨j, rfl⟩ : ∃ j, k = j + 1 := ⟨k - 1, by omega⟩
      have hjl : j < l.length := by rw [HN.out]; omega
      obtain ⟨oa, rfl, hca⟩ := Bs.at_ hs hjl
      have ca := hca j hjl
      have hv := Lib.hid (valN_drop l j hjl)
      obtain ⟨q, hq⟩ : ∃ q, q = l[j] := ⟨_, rfl⟩
      rw [← hq] at ca
      have HQ := Lib.hid hq
      have hq8 := q.toNat_lt
      have hm2 : m < 72057594037927936 := by
        rw [hm.out]
        refine Nat.lt_of_lt_of_le (valN_lt _) ?_
        have : (l.drop (j + 1)).length ≤ 7 := by rw [List.length_drop, HN.out]; omega
        exact Nat.le_trans (Nat.pow_le_pow_right (by omega) this) (by decide)
      clear hca hq
      go_wp2
      go_round
      case rel =>
        refine ⟨j, 256 * m + q.toNat, by omega, rfl, by go_num, Lib.hid ?_⟩
        rw [hv.out, hm.out, HQ.out]
      case measure => simp [intOf]
    · go_wp2
      go_ret
      refine ⟨?_, rfl⟩
      rw [show k = 0 by omega] at hm
      rw [hm.out]
      rfl
end Go.Proofs.YtfckgfoimpileaaDoor
/- The reference's Num: a number in as few bytes as may be, seven bits each. Condition: it fits 64 bits. -/
namespace Go.Proofs.YtfckgfoimpileaaDoor
open Go.RowKit

/-- A number in as few bytes as may be, seven bits each. -/
def numF : Nat → Nat → List UInt8
  | 0, _ => []
  | f + 1, n => if n < 128 then [UInt8.ofNat n] else UInt8.ofNat (n % 128 + 128) :: numF f (n / 128)
def num (n : Nat) : List UInt8 := numF 10 n
theorem numF_length (f n : Nat) : (numF f n).length ≤ f := by
  induction f generalizing n with
  | zero => simp [numF]
  | succ f ih =>
    rw [numF]
    split
    · simp
    · simp only [List.length_cons]; have := ih (n / 128); omega
theorem numF_big (f n : Nat) (h : 128 ≤ n) : numF (f + 1) n = UInt8.ofNat (n % 128 + 128) :: numF f (n / 128) := by rw [numF, if_neg (by omega)]
theorem numF_small (f n : Nat) (h : n < 128) : numF (f + 1) n = [UInt8.ofNat n] := by rw [numF, if_pos h]

theorem Row.lit1 (w : World) (q : UInt8) (x : Int) (hx : x = (q.toNat : Int)) : Row (w.alloc (.cells #[.int .u8 x] 5)) w.heap.size (.slice (some ⟨w.heap.size, 0, none⟩) 1 1) [q] := by
  subst hx
  exact World.ownsRow_lit w #[.int .u8 (q.toNat : Int)] 1 (Nat.le_refl _) (by simp [maxLen]) rfl

set_option maxHeartbeats 400000 in
set_option maxRecDepth 20000 in
theorem Num_fuel (f : Nat) : ∀ (n : Nat) (w : World), n < 128 ^ (f + 1) → n ≤ 18446744073709551615 → f ≤ 100 →
    Calls Tryd.prog 42 #[.int .u64 n] w fun e w' => ∃ v, e = .returned v ∧ Row w' w.heap.size v (numF (f + 1) n) ∧ Below w.heap.size w w' := by
  have small : ∀ (f n : Nat) (w : World), n < 128 →
    Calls Tryd.prog 42 #[.int .u64 n] w fun e w' => ∃ v, e = .returned v ∧ Row w' w.heap.size v (numF (f + 1) n) ∧ Below w.heap.size w w' := by
    intro f n w h
    go_enter Tryd.func42, Tryd.ntmps42
    go_wp2_with fail
    go_ret
    refine ⟨_, rfl, (Row.lit1 w (UInt8.ofNat n) n (by rw [u8_ofNat]; omega)).cast (numF_small f n h).symm, (Below.refl _ _).alloc (Nat.le_refl _) _⟩
  induction f with
  | zero =>
    intro n w hf hn _
    exact small 0 n w (by simpa using hf)
  | succ f ih =>
    intro n w hf hn h100
    by_cases hs : n < 128
    · exact small (f + 1) n w hs
    · have hd : n / 128 < 128 ^ (f + 1) := by
        rw [Nat.pow_succ] at hf
        exact Nat.div_lt_of_lt_mul (by rw [Nat.mul_comm]; exact hf)
      have ex : ((n % 128 + 128 : Nat) : Int) = ((UInt8.ofNat (n % 128 + 128)).toNat : Int) := by rw [u8_ofNat]; omega
      have HX := Lib.hid ex
      have HD := Lib.hid hd
      clear ex hd hf
      go_enter Tryd.func42, Tryd.ntmps42
      go_wp2_with fail
      refine (ih (n / 128) _ HD.out (by omega) (by omega)).mono ?_
      rintro e w1 ⟨v, rfl, hrow, hb⟩
      obtain ⟨A, c, b, rfl, _, _, _, _, hsl, _⟩ := hrow.sl
      have r1 := (Row.lit1 w (UInt8.ofNat (n % 128 + 128)) _ HX.out).ext hb
      obtain ⟨A1, c1, b1, hv1, _, _, _, _, hsl1, _⟩ := r1.sl
      injection hv1 with hA1 hn1 hc1
      subst hA1
      subst hc1
      clear hn1
      have R := numF_length (f + 1) (n / 128)
      obtain ⟨tl, htl⟩ : ∃ tl, tl = numF (f + 1) (n / 128) := ⟨_, rfl⟩
      rw [← htl] at hrow hsl R
      rw [← htl]
      have HT := Lib.hid htl
      clear htl
      have hbs : w.heap.size + 1 ≤ w1.heap.size := by have := hb.size; simpa using this
      go_wp2_with fail
      have hbss := Bss.cons (w := w1) (n := 1) (c := 1) hsl1 rfl (Bss.cons (n := tl.length) (c := c) hsl rfl (Bss.nil_ w1))
      refine (Join_calls _ _ _ 2 2 _ _ (Sl.cells_new w1 _ _) (hbss.ext ((Below.refl _ _).alloc (Nat.le_refl _) _)) rfl (by simp [maxLen]) (by simp; omega)).mono ?_
      rintro e w2 ⟨v2, rfl, hrow2, hb2⟩
      clear hbss hsl hsl1 r1 hrow R ih small hn h100
      have HS := Lib.hid hs
      clear hs
      go_wp2_with fail
      go_ret
      have hb3 : Below w.heap.size w w1 := ((Below.refl _ _).alloc (Nat.le_refl _) _).trans (hb.mono (by simp))
      refine ⟨_, rfl, (hrow2.low (by simp; omega)).cast (by rw [numF_big _ _ (by have := HS.out; omega), ← HT.out]; simp), (hb3.alloc (by omega) _).trans (hb2.mono (by simp; omega))⟩

theorem Num_calls (n : Nat) (w : World) (hn : n ≤ 18446744073709551615) :
    Calls Tryd.prog 42 #[.int .u64 n] w fun e w' => ∃ v, e = .returned v ∧ Row w' w.heap.size v (num n) ∧ Below w.heap.size w w' :=
  Num_fuel 9 n w (by simp; omega) hn (by omega)
end Go.Proofs.YtfckgfoimpileaaDoor
/- The pen's methods: what each call appends, and that only the pen's own memory turns; of a nil pen: nil, nothing. Condition: the sum of the lengths fits. -/
namespace Go.Proofs.YtfckgfoimpileaaDoor
open Go.RowKit

theorem Row.ne_blk {w : World} {B : Nat} {v : Value} {l : List UInt8} (h : Row w B v l) {g : Nat} {cs : Array Value} {t : TypeId} {fr : Nat × Nat} (hg : w.heap[g]? = some (.cells cs t fr)) (ht : t ≠ 5) : v.ownBlock ≠ some g := by
  intro hv
  rcases h.2 with ⟨rfl, _⟩ | ⟨g', cap, cur, rfl, _, hh, _⟩
  · simp [Value.ownBlock] at hv
  · have : g' = g := by simpa [Value.ownBlock] using hv
    subst this
    rw [hh] at hg
    injection hg with hg
    injection hg with _ h2 _
    exact ht h2.symm

/-- A pen in block g, its bytes l in the row r. -/
def PenAt (w : World) (g : Nat) (r : Option Nat) (l : List UInt8) : Prop :=
  ∃ v, w.heap[g]? = some (.cells #[v] 73 (0, 0)) ∧ Row w 0 v l ∧ v.ownBlock = r

/-- What a pen's write may turn: its block, its row; and where its row lies then. -/
def PenStep (g : Nat) (r r' : Option Nat) (w w' : World) : Prop :=
  (r' = r ∨ ∃ k, r' = some k ∧ w.heap.size ≤ k) ∧ Mod (fun i => i = g ∨ r = some i) w w'

theorem PenAt.lt {w : World} {g : Nat} {r : Option Nat} {l : List UInt8} (h : PenAt w g r l) : g < w.heap.size := by
  obtain ⟨v, hg, _⟩ := h
  exact (Array.getElem?_eq_some_iff.1 hg).1
theorem PenAt.mod {w w' : World} {g : Nat} {r : Option Nat} {l : List UInt8} (h : PenAt w g r l) {S : Nat → Prop} (hm : Mod S w w') (hg : ¬ S g) (hr : ∀ k, r = some k → ¬ S k) : PenAt w' g r l := by
  obtain ⟨v, h1, h2, h3⟩ := h
  exact ⟨v, by rw [hm.block g (Array.getElem?_eq_some_iff.1 h1).1 hg]; exact h1, h2.mod hm (fun k hk => hr k (h3 ▸ hk)), h3⟩
theorem PenAt.row_lt {w : World} {g : Nat} {r : Option Nat} {l : List UInt8} (h : PenAt w g r l) : ∀ k, r = some k → k < w.heap.size := by
  obtain ⟨v, _, h2, h3⟩ := h
  intro k hk
  exact (h2.lt k (h3.trans hk)).2
theorem PenAt.ext {w w' : World} {g : Nat} {r : Option Nat} {l : List UInt8} (h : PenAt w g r l) (hm : Below w.heap.size w w') : PenAt w' g r l :=
  h.mod (Mod.of_below hm) (by have := h.lt; omega) (fun k hk => by have := h.row_lt k hk; omega)
theorem PenAt.cast {w : World} {g : Nat} {r : Option Nat} {l l' : List UInt8} (h : PenAt w g r l) (e : l = l') : PenAt w g r l' := e ▸ h
theorem PenStep.refl (g : Nat) (r : Option Nat) (w : World) : PenStep g r r w w := ⟨.inl rfl, Mod.refl _ _⟩
theorem PenStep.trans {g : Nat} {r r1 r2 : Option Nat} {a b c : World} (h : PenStep g r r1 a b) (k : PenStep g r1 r2 b c) : PenStep g r r2 a c := by
  obtain ⟨h1, hm⟩ := h
  obtain ⟨k1, km⟩ := k
  refine ⟨?_, hm.trans km (fun i _ h => h) (fun i hi h => ?_)⟩
  · rcases k1 with rfl | ⟨q, rfl, hq⟩
    · exact h1
    · exact .inr ⟨q, rfl, Nat.le_trans hm.size hq⟩
  · rcases h with h | h
    · exact .inl h
    · rcases h1 with rfl | ⟨q, rfl, hq⟩
      · exact .inr h
      · injection h with h
        omega
theorem PenStep.below {g : Nat} {r r1 : Option Nat} {a b c : World} (h : Below a.heap.size a b) (k : PenStep g r r1 b c) : PenStep g r r1 a c :=
  ⟨k.1.imp id fun ⟨q, e, hq⟩ => ⟨q, e, Nat.le_trans h.size hq⟩, (Mod.of_below h).trans k.2 (fun i hi h => by omega) (fun i _ h => h)⟩
theorem PenStep.ext {g : Nat} {r r1 : Option Nat} {a b c : World} (h : PenStep g r r1 a b) (k : Below b.heap.size b c) : PenStep g r r1 a c :=
  ⟨h.1, h.2.trans (Mod.of_below k) (fun i _ h => h) (fun i hi hh => by have := h.2.size; omega)⟩

theorem pen_store {w : World} {g : Nat} {u v : Value} {l : List UInt8} {n : Nat} (hg : w.heap[g]? = some (.cells #[u] 73 (0, 0))) (hrow : w.ownsRow 0 5 1 v n (bv l)) : PenAt (w.setCell ⟨g, 0, none⟩ v) g v.ownBlock l := by
  have hn : n = l.length := by have := hrow.1; simpa using this.symm
  subst hn
  have hrow : Row w 0 v l := hrow
  exact ⟨v, by rw [heap_setCell_same w g 0 _ _ v hg]; rfl, hrow.mod (Mod.setCell w _ v) (fun k hk hkg => hrow.ne_blk hg (by decide) (by rw [hk, show k = g from hkg])), rfl⟩

set_option maxHeartbeats 400000 in
theorem add_calls (g : Nat) (r : Option Nat) (l : List UInt8) (A : Option Addr) (more : List UInt8) (n c b : Nat) (w : World) (hp : PenAt w g r l) (hs : Bs w b A more) (hn : more.length = n) (hlen : l.length + n ≤ 140737488355328) :
    Calls Tryd.prog 61 #[.pointer (some ⟨g, 0, none⟩), .slice A n c] w fun e w' => e = .returned (.pointer (some ⟨g, 0, none⟩)) ∧ ∃ r', PenAt w' g r' (l ++ more) ∧ PenStep g r r' w w' := by
  obtain ⟨v, hg, hrow, hr⟩ := hp
  have hc := cell_of_row w g 0 _ _ _ hg
  have hf := frozen_of_row w g 0 _ _ hg
  have hne := hrow.ne_blk hg (by decide)
  have hglt : g < w.heap.size := (Array.getElem?_eq_some_iff.1 hg).1
  simp only [List.getElem?_toArray, List.getElem?_cons_zero] at hc
  have HG := Lib.hid hg
  have HR := Lib.hid hr
  have HNE := Lib.hid hne
  clear hg hr hne
  go_enter Tryd.func61, Tryd.ntmps61
  go_wp2_with (at_builtin; refine wpList_app w rfl (.tmp 11) (.tmp 12) rfl 0 v l rfl hrow b A n c more rfl hs hn hlen (Nat.zero_le _) ?_; intro v' w1 hrow1 hmod hat; have hg1 := Lib.hid ((hmod.block g hglt HNE.out).trans HG.out); have hc1 : w1.cell? ⟨g, 0, none⟩ = some v := (cell_of_row w1 g 0 _ _ _ hg1.out).trans rfl; have hf1 := frozen_of_row w1 g 0 _ _ hg1.out; obtain ⟨A', c', b', hv', _⟩ := hrow1.sl; subst hv')
  go_ret
  have hmm : Mod (fun i => i = g ∨ r = some i) w w1 := hmod.mono fun i _ h => .inr (HR.out.symm.trans h)
  have el : (l ++ more).length = l.length + n := by simp [hn]
  rw [el] at hrow1 hat
  have hat' : (Value.slice A' (l.length + n) c').ownBlock = r ∨ ∃ k, (Value.slice A' (l.length + n) c').ownBlock = some k ∧ w.heap.size ≤ k := hat.imp (fun h => h.trans HR.out) (fun h => ⟨_, h, Nat.le_refl _⟩)
  exact ⟨rfl, _, pen_store hg1.out hrow1, hat', hmm.trans (Mod.setCell w1 _ _) (fun i _ h => h) (fun i _ h => .inl h)⟩

theorem add_nil (v : Value) (w : World) : Calls Tryd.prog 61 #[.pointer none, v] w fun e w' => e = .returned (.pointer none) ∧ w = w' := by
  go_enter Tryd.func61, Tryd.ntmps61
  go_wp2
  go_ret
  exact ⟨rfl, rfl⟩

/-- What each write's contract says. -/
def Wrote (g : Nat) (r : Option Nat) (l : List UInt8) (w : World) (e : Ending) (w' : World) : Prop :=
  e = .returned (.pointer (some ⟨g, 0, none⟩)) ∧ ∃ r', PenAt w' g r' l ∧ PenStep g r r' w w'

theorem low_one (n : Nat) : low n 1 = [UInt8.ofNat n] := by simp [low]
theorem bv_low_one (n : Nat) (h : n < 256) : bv (low n 1) = [.int .u8 (n : Int)] := by
  rw [low_one]
  simp only [bv, List.map_cons, List.map_nil, u8_ofNat]
  rw [Int.emod_eq_of_lt (by omega) (by omega)]
theorem bv_low_two (n : Nat) (h : n < 65536) : bv (low n 2) = [.int .u8 ((n : Int) % 256), .int .u8 ((n : Int) / 256)] := by
  simp only [low, List.range_succ, List.range_zero, List.nil_append, List.map_cons, List.map_nil, bv, u8_ofNat, List.cons_append]
  simp
  omega
theorem bv_low_four (n : Nat) (h : n < 4294967296) : bv (low n 4) = [.int .u8 ((n : Int) % 256), .int .u8 ((n : Int) / 256 % 256), .int .u8 ((n : Int) / 65536 % 256), .int .u8 ((n : Int) / 16777216)] := by
  simp only [low, List.range_succ, List.range_zero, List.nil_append, List.map_cons, List.map_nil, bv, u8_ofNat, List.cons_append]
  simp
  omega

set_option maxHeartbeats 400000 in
theorem PenByte_calls (g : Nat) (r : Option Nat) (l : List UInt8) (n : Nat) (w : World) (hp : PenAt w g r l) (hn : n < 256) (hlen : l.length + 1 ≤ 140737488355328) :
    Calls Tryd.prog 34 #[.pointer (some ⟨g, 0, none⟩), .int .u8 n] w (Wrote g r (l ++ low n 1) w) := by
  have hb := Lib.hid (bv_low_one n hn)
  go_enter Tryd.func34, Tryd.ntmps34
  go_wp2_with fail
  have hx : Below w.heap.size w (w.alloc (.cells #[.int .u8 (n : Int)] 5)) := (Below.refl _ _).alloc (Nat.le_refl _) _
  refine (add_calls g r l _ (low n 1) 1 1 w.heap.size _ (hp.ext hx) (by unfold Bs; rw [hb.out]; exact Sl.cells_new w _ _) (by simp) hlen).mono ?_
  rintro e w1 ⟨rfl, r', hp', hst⟩
  go_wp2
  go_ret
  exact ⟨rfl, r', hp', PenStep.below hx hst⟩

set_option maxHeartbeats 400000 in
theorem PenWord_calls (g : Nat) (r : Option Nat) (l : List UInt8) (n : Nat) (w : World) (hp : PenAt w g r l) (hn : n < 4294967296) (hlen : l.length + 4 ≤ 140737488355328) :
    Calls Tryd.prog 35 #[.pointer (some ⟨g, 0, none⟩), .int .u32 n] w (Wrote g r (l ++ low n 4) w) := by
  have hb := Lib.hid (bv_low_four n hn)
  go_enter Tryd.func35, Tryd.ntmps35
  go_wp2_with fail
  have hx : Below w.heap.size w (w.alloc (.cells #[.int .u8 ((n : Int) % 256), .int .u8 ((n : Int) / 256 % 256), .int .u8 ((n : Int) / 65536 % 256), .int .u8 ((n : Int) / 16777216)] 5)) := (Below.refl _ _).alloc (Nat.le_refl _) _
  refine (add_calls g r l _ (low n 4) 4 4 w.heap.size _ (hp.ext hx) (by unfold Bs; rw [hb.out]; exact Sl.cells_new w _ _) (by simp) hlen).mono ?_
  rintro e w1 ⟨rfl, r', hp', hst⟩
  go_wp2
  go_ret
  exact ⟨rfl, r', hp', PenStep.below hx hst⟩

set_option maxRecDepth 20000 in
theorem or128 (m : Nat) : bits .or .u8 ((m : Int) % 256) 128 = ((UInt8.ofNat (m % 128 + 128)).toNat : Int) := by
  have h : ∀ x : Fin 256, x.val ||| 128 = x.val % 128 + 128 := by decide
  rw [u8_or _ _ (by omega) (by omega) (by omega) (by omega), u8_ofNat]
  have h2 := h ⟨m % 256, by omega⟩
  have e1 : ((m : Int) % 256).toNat = m % 256 := by omega
  have e2 : (128 : Int).toNat = 128 := rfl
  rw [e1, e2]
  simp only at h2
  rw [h2]
  omega

set_option maxHeartbeats 400000 in
set_option maxRecDepth 20000 in
theorem PenNum_calls (g : Nat) (r : Option Nat) (l : List UInt8) (n : Nat) (w : World) (hp : PenAt w g r l) (hn : n ≤ 18446744073709551615) (hlen : l.length + 10 ≤ 140737488355328) :
    Calls Tryd.prog 33 #[.pointer (some ⟨g, 0, none⟩), .int .u64 n] w (Wrote g r (l ++ num n) w) := by
  have HN := Lib.hid hn
  go_enter Tryd.func33, Tryd.ntmps33
  go_wp2_with fail
  go_loopw [1] (fun x wr => ∃ (m f : Nat) (r1 : Option Nat) (l1 : List UInt8), x = .int .u64 m ∧ m ≤ n ∧ f ≤ 9 ∧ Hid (m < 128 ^ (f + 1) ∧ l1 ++ numF (f + 1) m = l ++ num n ∧ l1.length + f + 1 = l.length + 10) ∧ PenAt wr g r1 l1 ∧ PenStep g r r1 w wr) (fun x _ => (intOf x).toNat)
  case atStart => exact ⟨n, 9, r, l, rfl, Nat.le_refl _, Nat.le_refl _, Lib.hid ⟨by have := HN.out; simp; omega, rfl, rfl⟩, hp, PenStep.refl _ _ _⟩
  case round =>
    obtain ⟨m, f, r1, l1, rfl, hmn, hf, H, hp1, hst⟩ := hrel
    clear hp
    by_cases hm : 128 ≤ m
    · have hor := or128 m
      go_wp2_with fail
      have hx : Below wr.heap.size wr (wr.alloc (.cells #[.int .u8 ((UInt8.ofNat (m % 128 + 128)).toNat : Int)] 5)) := (Below.refl _ _).alloc (Nat.le_refl _) _
      refine (add_calls g r1 l1 _ [UInt8.ofNat (m % 128 + 128)] 1 1 wr.heap.size _ (hp1.ext hx) (Sl.cells_new wr _ _) rfl (by have := H.out.2.2; omega)).mono ?_
      rintro e w1 ⟨rfl, r2, hp2, hst2⟩
      clear hor hp1
      obtain ⟨f', rfl⟩ : ∃ f', f = f' + 1 := ⟨f - 1, by
        rcases f with _ | f'
        · have := H.out.1; simp at this; omega
        · omega⟩
      go_wp2
      go_roundw
      case rel =>
        refine ⟨m / 128, f', r2, _, by go_num, by omega, by omega, Lib.hid ⟨?_, ?_, ?_⟩, hp2, hst.trans (PenStep.below hx hst2)⟩
        · have := H.out.1
          rw [Nat.pow_succ] at this
          exact Nat.div_lt_of_lt_mul (by rw [Nat.mul_comm]; exact this)
        · rw [← H.out.2.1, numF_big _ m hm]
          simp
        · have := H.out.2.2
          simp only [List.length_append, List.length_cons, List.length_nil]
          omega
      case measure => simp [intOf]; omega
    · have hm' : m < 128 := by omega
      have e2 := Lib.hid (u8_ofNat m)
      go_wp2_with fail
      have hx : Below wr.heap.size wr (wr.alloc (.cells #[.int .u8 (m : Int)] 5)) := (Below.refl _ _).alloc (Nat.le_refl _) _
      refine (add_calls g r1 l1 _ [UInt8.ofNat m] 1 1 wr.heap.size _ (hp1.ext hx) ?_ rfl (by have := H.out.2.2; omega)).mono ?_
      · have : bv [UInt8.ofNat m] = [.int .u8 (m : Int)] := by
          simp only [bv, List.map_cons, List.map_nil, e2.out]
          rw [Int.emod_eq_of_lt (by omega) (by omega)]
        unfold Bs
        rw [this]
        exact Sl.cells_new wr _ _
      rintro e w1 ⟨rfl, r2, hp2, hst2⟩
      go_wp2
      go_ret
      refine ⟨rfl, r2, hp2.cast ?_, hst.trans (PenStep.below hx hst2)⟩
      rw [← H.out.2.1, numF_small _ _ hm']

set_option maxHeartbeats 400000 in
theorem PenBytes_calls (g : Nat) (r : Option Nat) (l : List UInt8) (w : World) (hp : PenAt w g r l) (hlen : l.length ≤ 140737488355328) :
    Calls Tryd.prog 36 #[.pointer (some ⟨g, 0, none⟩)] w fun e w' => ∃ v, e = .returned v ∧ Row w' w.heap.size v l ∧ Below w.heap.size w w' := by
  obtain ⟨v, hg, hrow, hr⟩ := hp
  obtain ⟨A, c, b, rfl, _, _, _, _, hs, _⟩ := hrow.sl
  have hc := cell_of_row w g 0 _ _ _ hg
  simp only [List.getElem?_toArray, List.getElem?_cons_zero] at hc
  clear hr hrow hg
  go_enter Tryd.func36, Tryd.ntmps36
  go_wp2_with (at_builtin; refine wpList_app w rfl (.const (.slice none 0 0)) (.tmp 8) rfl w.heap.size (.slice none 0 0) [] rfl (Row.nil_ _ _) b A l.length c l rfl hs rfl (by simp; omega) (Nat.le_refl _) ?_; intro v' w1 hrow1 hmod hat; obtain ⟨A', c', b', hv', _⟩ := hrow1.sl; subst hv')
  go_ret
  exact ⟨_, rfl, hrow1, hmod.below (Nat.le_refl _) (fun i _ h => by simp [Value.ownBlock] at h)⟩

/-! A nil pen. -/
end Go.Proofs.YtfckgfoimpileaaDoor
/- The eye's methods: what each call reads off the front, and when it isn't right any more; only the eye's own block turns. -/
namespace Go.Proofs.YtfckgfoimpileaaDoor
open Go.RowKit

/-- An eye in block g: what is left is l, its bytes in block b; has it been wrong? -/
def EyeAt (w : World) (g b : Nat) (l : List UInt8) (wr : Bool) : Prop :=
  b ≠ g ∧ ∃ A c, w.heap[g]? = some (.cells #[.slice A l.length c, .bool wr] 113 (0, 0)) ∧ l.length ≤ c ∧ c ≤ maxLen ∧ Bs w b A l

theorem EyeAt.lt {w : World} {g b : Nat} {l : List UInt8} {wr : Bool} (h : EyeAt w g b l wr) : g < w.heap.size := by
  obtain ⟨_, A, c, hg, _⟩ := h
  exact (Array.getElem?_eq_some_iff.1 hg).1
theorem EyeAt.mod {w w' : World} {g b : Nat} {l : List UInt8} {wr : Bool} (h : EyeAt w g b l wr) {S : Nat → Prop} (hm : Mod S w w') (hg : ¬ S g) (hb : ¬ S b) : EyeAt w' g b l wr := by
  obtain ⟨hne, A, c, h1, h2, h3, h4⟩ := h
  exact ⟨hne, A, c, by rw [hm.block g (Array.getElem?_eq_some_iff.1 h1).1 hg]; exact h1, h2, h3, Sl.mod h4 hm hb⟩
theorem EyeAt.ext {w w' : World} {g b : Nat} {l : List UInt8} {wr : Bool} (h : EyeAt w g b l wr) (hm : Below w.heap.size w w') : EyeAt w' g b l wr := by
  have hlt := h.lt
  obtain ⟨hne, A, c, h1, h2, h3, h4⟩ := h
  exact ⟨hne, A, c, by rw [hm.block g hlt]; exact h1, h2, h3, Sl.ext h4 hm⟩

/-- A cell of two, written. -/
theorem eye_set0 {w : World} {g : Nat} {u v x : Value} (hg : w.heap[g]? = some (.cells #[u, v] 113 (0, 0))) : (w.setCell ⟨g, 0, none⟩ x).heap[g]? = some (.cells #[x, v] 113 (0, 0)) := by
  rw [heap_setCell_same w g 0 _ _ x hg]; rfl
theorem eye_set1 {w : World} {g : Nat} {u v x : Value} (hg : w.heap[g]? = some (.cells #[u, v] 113 (0, 0))) : (w.setCell ⟨g, 1, none⟩ x).heap[g]? = some (.cells #[u, x] 113 (0, 0)) := by
  rw [heap_setCell_same w g 1 _ _ x hg]; rfl

theorem eye_store {w : World} {g b : Nat} {u : Value} {wr : Bool} {A : Option Addr} {l : List UInt8} {n c : Nat} (hne : b ≠ g) (hg : w.heap[g]? = some (.cells #[u, .bool wr] 113 (0, 0))) (hs : Bs w b A l) (hn : l.length = n) (h1 : n ≤ c) (h2 : c ≤ maxLen) : EyeAt (w.setCell ⟨g, 0, none⟩ (.slice A n c)) g b l wr := by
  subst hn
  exact ⟨hne, A, c, eye_set0 hg, h1, h2, Sl.setCell hs hne _⟩

set_option maxHeartbeats 400000 in
theorem fail_calls (g b : Nat) (l : List UInt8) (wr : Bool) (w : World) (he : EyeAt w g b l wr) :
    Calls Tryd.prog 62 #[.pointer (some ⟨g, 0, none⟩)] w fun e w' => e = .returned (.tuple #[]) ∧ EyeAt w' g b [] true ∧ Mod (fun i => i = g) w w' := by
  obtain ⟨hne, A, c, hg, _, _, _⟩ := he
  have hc0 := cell_of_row w g 0 _ _ _ hg
  have hc1 := cell_of_row w g 1 _ _ _ hg
  have hf0 := frozen_of_row w g 0 _ _ hg
  have hf1 := frozen_of_row w g 1 _ _ hg
  simp only [List.getElem?_toArray, List.getElem?_cons_zero, List.getElem?_cons_succ] at hc0 hc1
  have HG := Lib.hid hg
  clear hg
  go_enter Tryd.func62, Tryd.ntmps62
  go_wp2
  go_end0
  refine ⟨rfl, ⟨hne, none, 0, eye_set1 (eye_set0 HG.out), Nat.le_refl _, by simp [maxLen], Sl.nil_ _ _ _⟩, ?_⟩
  exact (Mod.setCell w _ _).trans (Mod.setCell _ _ _) (fun i _ h => h) (fun i _ h => h)

set_option maxHeartbeats 400000 in
theorem take_no (g b : Nat) (l : List UInt8) (wr : Bool) (k : Int) (w : World) (he : EyeAt w g b l wr) (hk : (l.length : Int) < k) :
    Calls Tryd.prog 64 #[.pointer (some ⟨g, 0, none⟩), .int .i64 k] w fun e w' => e = .returned (.slice none 0 0) ∧ EyeAt w' g b [] true ∧ Mod (fun i => i = g) w w' := by
  have he0 := he
  obtain ⟨hne, A, c, hg, _, _, _⟩ := he
  have hc0 := cell_of_row w g 0 _ _ _ hg
  simp only [List.getElem?_toArray, List.getElem?_cons_zero] at hc0
  clear hg
  go_enter Tryd.func64, Tryd.ntmps64
  go_wp2_with (go_at_call 62; refine (fail_calls g b l wr _ he0).mono ?_; rintro e w1 ⟨rfl, h1, h2⟩)
  go_ret
  exact ⟨rfl, h1, h2⟩

set_option maxHeartbeats 400000 in
theorem take_yes (g b : Nat) (l : List UInt8) (wr : Bool) (k : Nat) (w : World) (he : EyeAt w g b l wr) (hk : k ≤ l.length) :
    Calls Tryd.prog 64 #[.pointer (some ⟨g, 0, none⟩), .int .i64 k] w fun e w' => ∃ A', e = .returned (.slice A' k k) ∧ Bs w' b A' (l.take k) ∧ EyeAt w' g b (l.drop k) wr ∧ Mod (fun i => i = g) w w' := by
  obtain ⟨hne, A, c, hg, hlc, hcm, hs⟩ := he
  unfold maxLen at hcm
  have hc0 := cell_of_row w g 0 _ _ _ hg
  have hf0 := frozen_of_row w g 0 _ _ hg
  simp only [List.getElem?_toArray, List.getElem?_cons_zero] at hc0
  have HG := Lib.hid hg
  clear hg
  go_enter Tryd.func64, Tryd.ntmps64
  go_wp2_with fail
  · go_ret
    have h : c = k := by assumption
    have hd := hs.drop (k := k) (by simpa using hlc)
    rw [bv_drop, if_pos h] at hd
    exact ⟨A, rfl, by have := Sl.take hs k; rw [bv_take] at this; exact Sl.setCell this hne _, eye_store hne HG.out hd (by simp) (by omega) (Nat.zero_le _), Mod.setCell w ⟨g, 0, none⟩ _⟩
  · go_ret
    have h : ¬ c = k := by assumption
    have hd := hs.drop (k := k) (by simpa using hlc)
    rw [bv_drop, if_neg h] at hd
    exact ⟨A, rfl, by have := Sl.take hs k; rw [bv_take] at this; exact Sl.setCell this hne _, eye_store hne HG.out hd (by simp) (by omega) (by unfold maxLen; omega), Mod.setCell w ⟨g, 0, none⟩ _⟩

theorem take_nil (k : Int) (w : World) : Calls Tryd.prog 64 #[.pointer none, .int .i64 k] w fun e w' => e = .returned (.slice none 0 0) ∧ w = w' := by
  have hf : Calls Tryd.prog 62 #[.pointer none] w fun e w' => e = .returned (.tuple #[]) ∧ w = w' := by
    go_enter Tryd.func62, Tryd.ntmps62
    go_wp2
    go_end0
    exact ⟨rfl, rfl⟩
  have HF := Lib.hid hf
  clear hf
  go_enter Tryd.func64, Tryd.ntmps64
  go_wp2_with (go_at_call 62; refine HF.out.mono ?_; rintro e w1 ⟨rfl, rfl⟩)
  go_ret
  exact ⟨rfl, rfl⟩

theorem valN_snoc (l : List UInt8) (x : UInt8) : valN (l ++ [x]) = valN l + 256 ^ l.length * x.toNat := by
  induction l with
  | nil => simp [valN]
  | cons y l ih => rw [List.cons_append, valN_cons, ih, valN_cons, List.length_cons, Nat.pow_succ, Nat.mul_add, Nat.mul_comm (256 ^ l.length) 256, Nat.mul_assoc]; omega
theorem valN_take_succ (l : List UInt8) (k : Nat) (h : k < l.length) : valN (l.take (k + 1)) = valN (l.take k) + 256 ^ k * l[k].toNat := by
  rw [List.take_succ_eq_append_getElem h, valN_snoc, List.length_take, Nat.min_eq_left (by omega)]

theorem or_add (m q i : Nat) (h : m < 2 ^ i) : m ||| (q * 2 ^ i) = m + q * 2 ^ i := by
  rw [Nat.or_comm, ← Nat.shiftLeft_eq, ← Nat.shiftLeft_add_eq_or_of_lt h, Nat.add_comm]
theorem u32_or_add (m q P i : Nat) (hP : P = 2 ^ i) (h : m < P) (hb : m + q * P < 4294967296) : bits .or .u32 (m : Int) ((q : Int) * (P : Int)) = ((m + q * P : Nat) : Int) := by
  have e : ((q : Int) * (P : Int)) = ((q * P : Nat) : Int) := by simp
  rw [e, u32_or_nat m (q * P) (by omega) (by omega)]
  subst hP
  rw [or_add _ _ _ h]

set_option maxHeartbeats 400000 in
theorem number_calls (A : Option Addr) (l : List UInt8) (n c b : Nat) (w : World) (hs : Bs w b A l) (hn : l.length = n) (h4 : n ≤ 4) :
    Calls Tryd.prog 63 #[.slice A n c] w fun e w' => e = .returned (.int .u32 (valN l : Nat)) ∧ w = w' := by
  have HN := Lib.hid hn
  clear hn
  go_enter Tryd.func63, Tryd.ntmps63
  go_wp2
  go_loop [3, 8] (fun x i => ∃ k m : Nat, k ≤ n ∧ i = .int .i64 k ∧ x = .int .u32 m ∧ Hid (m = valN (l.take k))) (fun _ i => n - (intOf i).toNat)
  case atStart => exact ⟨0, 0, Nat.zero_le _, rfl, rfl, Lib.hid rfl⟩
  case round =>
    obtain ⟨k, m, hk, rfl, rfl, hm⟩ := hrel
    by_cases hlt : k < n
    · have hkl : k < l.length := by rw [HN.out]; exact hlt
      obtain ⟨oa, rfl, hca⟩ := Bs.at_ hs hkl
      have ca := hca k hkl
      have hv := Lib.hid (valN_take_succ l k hkl)
      obtain ⟨q, hq⟩ : ∃ q, q = l[k] := ⟨_, rfl⟩
      rw [← hq] at ca
      have HQ := Lib.hid hq
      have hq8 := q.toNat_lt
      have hml := Lib.hid (valN_lt (l.take k))
      clear hca hq
      have hk4 : k = 0 ∨ k = 1 ∨ k = 2 ∨ k = 3 := by omega
      rcases hk4 with rfl | rfl | rfl | rfl
      · simp only [Nat.add_zero] at ca
        go_wp2
        have hb1 : m < 1 := by
          have h1 := hml.out
          rw [← hm.out] at h1
          refine Nat.lt_of_lt_of_le h1 (Nat.le_trans (Nat.pow_le_pow_right (by omega) (List.length_take_le 0 l)) (by decide))
        have e1 := u32_or_add m q.toNat 1 0 (by decide) hb1 (by omega)
        go_round
        case rel =>
          refine ⟨1, m + q.toNat * 1, by omega, rfl, by rw [← e1]; simp, Lib.hid ?_⟩
          rw [hv.out, ← hm.out, HQ.out]
          omega
        case measure => simp [intOf]; omega
      · go_wp2
        have hb1 : m < 256 := by
          have h1 := hml.out
          rw [← hm.out] at h1
          refine Nat.lt_of_lt_of_le h1 (Nat.le_trans (Nat.pow_le_pow_right (by omega) (List.length_take_le 1 l)) (by decide))
        have e1 := u32_or_add m q.toNat 256 8 (by decide) hb1 (by omega)
        go_round
        case rel =>
          refine ⟨2, m + q.toNat * 256, by omega, rfl, by rw [← e1]; rfl, Lib.hid ?_⟩
          rw [hv.out, ← hm.out, HQ.out]
          omega
        case measure => simp [intOf]; omega
      · go_wp2
        have hb1 : m < 65536 := by
          have h1 := hml.out
          rw [← hm.out] at h1
          refine Nat.lt_of_lt_of_le h1 (Nat.le_trans (Nat.pow_le_pow_right (by omega) (List.length_take_le 2 l)) (by decide))
        have e1 := u32_or_add m q.toNat 65536 16 (by decide) hb1 (by omega)
        go_round
        case rel =>
          refine ⟨3, m + q.toNat * 65536, by omega, rfl, by rw [← e1]; rfl, Lib.hid ?_⟩
          rw [hv.out, ← hm.out, HQ.out]
          omega
        case measure => simp [intOf]; omega
      · go_wp2
        have hb1 : m < 16777216 := by
          have h1 := hml.out
          rw [← hm.out] at h1
          refine Nat.lt_of_lt_of_le h1 (Nat.le_trans (Nat.pow_le_pow_right (by omega) (List.length_take_le 3 l)) (by decide))
        have e1 := u32_or_add m q.toNat 16777216 24 (by decide) hb1 (by omega)
        go_round
        case rel =>
          refine ⟨4, m + q.toNat * 16777216, by omega, rfl, by rw [← e1]; rfl, Lib.hid ?_⟩
          rw [hv.out, ← hm.out, HQ.out]
          omega
        case measure => simp [intOf]; omega
    · go_wp2
      go_ret
      rw [show k = n by omega, List.take_of_length_le (by rw [HN.out]; exact Nat.le_refl _)] at hm
      exact ⟨by rw [← hm.out]; rfl, rfl⟩

/-- What an eye's read of k fixed bytes says. -/
def ReadN (g b k : Nat) (l : List UInt8) (wr : Bool) (K : IntKind) (w : World) (e : Ending) (w' : World) : Prop :=
  (k ≤ l.length → e = .returned (.int K (valN (l.take k) : Nat)) ∧ EyeAt w' g b (l.drop k) wr ∧ Mod (fun i => i = g) w w') ∧
  (l.length < k → e = .returned (.int K 0) ∧ EyeAt w' g b [] true ∧ Mod (fun i => i = g) w w')

set_option maxHeartbeats 400000 in
theorem EyeByte_calls (g b : Nat) (l : List UInt8) (wr : Bool) (w : World) (he : EyeAt w g b l wr) :
    Calls Tryd.prog 39 #[.pointer (some ⟨g, 0, none⟩)] w (ReadN g b 1 l wr .u8 w) := by
  by_cases hk : 1 ≤ l.length
  · have hv := valN_lt (l.take 1)
    rw [List.length_take, Nat.min_eq_left hk] at hv
    go_enter Tryd.func39, Tryd.ntmps39
    go_wp2_with fail
    refine (take_yes g b l wr 1 _ he hk).mono ?_
    rintro e w1 ⟨A', rfl, hs, he1, hm⟩
    go_wp2_with fail
    refine (number_calls A' (l.take 1) 1 1 b _ hs (by simp; omega) (by omega)).mono ?_
    rintro e w2 ⟨rfl, rfl⟩
    go_wp2
    go_ret
    exact ⟨fun _ => ⟨rfl, he1, hm⟩, fun h => by omega⟩
  · go_enter Tryd.func39, Tryd.ntmps39
    go_wp2_with fail
    refine (take_no g b l wr 1 _ he (by omega)).mono ?_
    rintro e w1 ⟨rfl, he1, hm⟩
    go_wp2_with fail
    refine (number_calls none [] 0 0 b _ (Sl.nil_ _ _ _) rfl (by omega)).mono ?_
    rintro e w2 ⟨rfl, rfl⟩
    go_wp2
    go_ret
    exact ⟨fun h => by omega, fun _ => ⟨rfl, he1, hm⟩⟩

set_option maxHeartbeats 400000 in
theorem EyeWord_calls (g b : Nat) (l : List UInt8) (wr : Bool) (w : World) (he : EyeAt w g b l wr) :
    Calls Tryd.prog 40 #[.pointer (some ⟨g, 0, none⟩)] w (ReadN g b 4 l wr .u32 w) := by
  by_cases hk : 4 ≤ l.length
  · go_enter Tryd.func40, Tryd.ntmps40
    go_wp2_with fail
    refine (take_yes g b l wr 4 _ he hk).mono ?_
    rintro e w1 ⟨A', rfl, hs, he1, hm⟩
    go_wp2_with fail
    refine (number_calls A' (l.take 4) 4 4 b _ hs (by simp; omega) (by omega)).mono ?_
    rintro e w2 ⟨rfl, rfl⟩
    go_wp2
    go_ret
    exact ⟨fun _ => ⟨rfl, he1, hm⟩, fun h => by omega⟩
  · go_enter Tryd.func40, Tryd.ntmps40
    go_wp2_with fail
    refine (take_no g b l wr 4 _ he (by omega)).mono ?_
    rintro e w1 ⟨rfl, he1, hm⟩
    go_wp2_with fail
    refine (number_calls none [] 0 0 b _ (Sl.nil_ _ _ _) rfl (by omega)).mono ?_
    rintro e w2 ⟨rfl, rfl⟩
    go_wp2
    go_ret
    exact ⟨fun h => by omega, fun _ => ⟨rfl, he1, hm⟩⟩
theorem EyeAt.castl {w : World} {g b : Nat} {l l' : List UInt8} {bad : Bool} (h : EyeAt w g b l bad) (e : l = l') : EyeAt w g b l' bad := e ▸ h
def doneErr (l : List UInt8) (bad : Bool) : Int := if bad = true ∨ l ≠ [] then 2 else 0
theorem Done_calls (g b : Nat) (l : List UInt8) (bad : Bool) (w : World) (he : EyeAt w g b l bad) :
    Calls Tryd.prog 41 #[.pointer (some ⟨g, 0, none⟩)] w fun e w' => e = .returned (.int .i64 (doneErr l bad)) ∧ w = w' := by
  obtain ⟨hne, A, c, hg, hlc, hcm, hs⟩ := he
  unfold maxLen at hcm
  have hc0 := cell_of_row w g 0 _ _ _ hg
  have hc1 := cell_of_row w g 1 _ _ _ hg
  simp only [List.getElem?_toArray, List.getElem?_cons_zero, List.getElem?_cons_succ] at hc0 hc1
  clear hg
  cases bad
  · rcases Nat.eq_zero_or_pos l.length with h | h
    · have hl : l = [] := List.eq_nil_of_length_eq_zero h
      subst hl
      go_enter Tryd.func41, Tryd.ntmps41
      go_wp2
      go_ret
      exact ⟨by simp [doneErr], rfl⟩
    · have hl : l ≠ [] := by rintro rfl; simp at h
      have HL := Lib.hid hl
      clear hl
      have h' : (0 : Int) < (l.length : Int) := by omega
      go_enter Tryd.func41, Tryd.ntmps41
      go_wp2
      go_ret
      exact ⟨by simp [doneErr, HL.out], rfl⟩
  · go_enter Tryd.func41, Tryd.ntmps41
    go_wp2
    go_ret
    exact ⟨by simp [doneErr], rfl⟩

set_option maxHeartbeats 400000 in
theorem Read_own (A : Option Addr) (l : List UInt8) (n c b : Nat) (w : World) (hs : Bs w b A l) (hn : l.length = n) (hlen : n ≤ 140737488355328) :
    Calls Tryd.prog 37 #[.slice A n c] w fun e w' => ∃ g b', e = .returned (.pointer (some ⟨g, 0, none⟩)) ∧ EyeAt w' g b' l false ∧ w.heap.size ≤ g ∧ w.heap.size ≤ b' ∧ Below w.heap.size w w' ∧ (l ≠ [] → ∃ cur, w'.heap[b']? = some (.cells cur 5 (0, 0))) := by
  go_enter Tryd.func37, Tryd.ntmps37
  go_wp2_with (at_builtin; refine wpList_app w rfl (.const (.slice none 0 0)) (.tmp 3) rfl w.heap.size (.slice none 0 0) [] rfl (Row.nil_ _ _) b A n c l rfl hs hn (by simp; omega) (Nat.le_refl _) ?_; intro v' w1 hrow1 hmod hat; obtain ⟨A', c', b', hv', hlc, hcm, _, hb', hs', _⟩ := hrow1.sl; have hblk := Lib.hid (Row.blk_sl hrow1 hv' hs'); subst hv')
  go_ret
  have hb1 : Below w.heap.size w w1 := hmod.below (Nat.le_refl _) (fun i _ h => by simp [Value.ownBlock] at h)
  have hx : Below w1.heap.size w1 (w1.alloc (.cells #[.slice A' n c', .bool false] 113)) := (Below.refl _ _).alloc (Nat.le_refl _) _
  have hn' : n = l.length := hn.symm
  have hne : b' ≠ w1.heap.size ∨ l = [] := by
    rcases Nat.eq_zero_or_pos l.length with h | h
    · exact .inr (List.eq_nil_of_length_eq_zero h)
    · exact .inl (by have := Sl.lt hs' (by simp only [List.nil_append, ne_eq, bv_nil_iff]; rintro rfl; simp at h); omega)
  simp only [List.nil_append] at hs' hlc
  have hnew : (w1.alloc (.cells #[.slice A' n c', .bool false] 113)).heap[w1.heap.size]? = some (.cells #[.slice A' n c', .bool false] 113 (0, 0)) := heap_alloc_new w1 _
  rw [hn'] at hnew ⊢
  rcases hne with hne | rfl
  · refine ⟨_, b', rfl, ⟨hne, A', c', hnew, hlc, hcm, Sl.alloc hs' _⟩, hb1.size, hb', hb1.alloc hb1.size _, fun hl => ?_⟩
    obtain ⟨cur, hcur⟩ := hblk.out (by simpa using hl)
    exact ⟨cur, (Below.heap_alloc _ _ _ (Array.getElem?_eq_some_iff.1 hcur).1).trans hcur⟩
  · exact ⟨_, w1.heap.size + 1, rfl, ⟨by omega, A', c', hnew, hlc, hcm, Sl.nil_ _ _ _⟩, hb1.size, by have := hb1.size; omega, hb1.alloc hb1.size _, fun hl => absurd rfl hl⟩

theorem Read_calls (A : Option Addr) (l : List UInt8) (n c b : Nat) (w : World) (hs : Bs w b A l) (hn : l.length = n) (hlen : n ≤ 140737488355328) :
    Calls Tryd.prog 37 #[.slice A n c] w fun e w' => ∃ g b', e = .returned (.pointer (some ⟨g, 0, none⟩)) ∧ EyeAt w' g b' l false ∧ w.heap.size ≤ g ∧ w.heap.size ≤ b' ∧ Below w.heap.size w w' :=
  (Read_own A l n c b w hs hn hlen).mono fun _ _ ⟨g, b', h1, h2, h3, h4, h5, _⟩ => ⟨g, b', h1, h2, h3, h4, h5⟩

theorem EyeAt.modne {w w' : World} {g b : Nat} {l : List UInt8} {wr : Bool} (h : EyeAt w g b l wr) {S : Nat → Prop} (hm : Mod S w w') (hg : ¬ S g) (hb : l ≠ [] → ¬ S b) : EyeAt w' g b l wr := by
  obtain ⟨hne, A, c, h1, h2, h3, h4⟩ := h
  exact ⟨hne, A, c, by rw [hm.block g (Array.getElem?_eq_some_iff.1 h1).1 hg]; exact h1, h2, h3, Bs.modne h4 hm hb⟩
end Go.Proofs.YtfckgfoimpileaaDoor
/- The eye's Num and Blob; Left, Done, Read; a nil eye. -/
namespace Go.Proofs.YtfckgfoimpileaaDoor
open Go.RowKit

/-- A number off the front: its value, how many bytes; the byte at its head is number i of it. -/
def rd : Nat → List UInt8 → Option (Nat × Nat)
  | _, [] => none
  | i, x :: l =>
    if x.toNat < 128 then (if (0 < i ∧ x.toNat = 0) ∨ (i = 9 ∧ 1 < x.toNat) then none else some (x.toNat, 1))
    else if i = 9 then none else (rd (i + 1) l).map fun y => (x.toNat % 128 + 128 * y.1, y.2 + 1)

theorem u64_or_add (m q P i : Nat) (hP : P = 2 ^ i) (h : m < P) (hb : m + q * P < 18446744073709551616) : bits .or .u64 (m : Int) ((q : Int) * (P : Int)) = ((m + q * P : Nat) : Int) := by
  have e : ((q : Int) * (P : Int)) = ((q * P : Nat) : Int) := by simp
  rw [e, u64_or_nat m (q * P) (by omega) (by omega)]
  subst hP
  rw [or_add _ _ _ h]
set_option maxRecDepth 20000 in
theorem and127 (q : Nat) (hq : q < 256) : bits .and .u8 (q : Int) 127 = ((q % 128 : Nat) : Int) := by
  have h : ∀ x : Fin 256, x.val &&& 127 = x.val % 128 := by decide
  have e : (127 : Int) = ((127 : Nat) : Int) := rfl
  rw [e, u8_and_nat q 127 hq (by omega)]
  have := h ⟨q, hq⟩
  simp only at this
  rw [this]

/-- One byte more of a number. -/
theorem num_or (p q k : Nat) (hq : q < 256) (hp : p < 128 ^ k) (hb : p + 128 ^ k * (q % 128) < 18446744073709551616) :
    bits .or .u64 (p : Int) (IntKind.u64.wrap (IntKind.u64.wrap (bits .and .u8 (q : Int) 127) * 2 ^ (7 * k))) = ((p + 128 ^ k * (q % 128) : Nat) : Int) := by
  have hk : (128 : Nat) ^ k = 2 ^ (7 * k) := by rw [Nat.pow_mul]
  have hpw : (2 : Int) ^ (7 * k) = ((128 ^ k : Nat) : Int) := by rw [hk]; simp
  have e1 : IntKind.u64.wrap ((q % 128 : Nat) : Int) = ((q % 128 : Nat) : Int) := IntWalk.u64_in _ (by omega)
  have e : (((q % 128 : Nat) : Int) * ((128 ^ k : Nat) : Int)) = ((128 ^ k * (q % 128) : Nat) : Int) := by rw [Nat.mul_comm (128 ^ k)]; simp
  have e2 : IntKind.u64.wrap (((q % 128 : Nat) : Int) * ((128 ^ k : Nat) : Int)) = ((q % 128 : Nat) : Int) * ((128 ^ k : Nat) : Int) := IntWalk.u64_in _ (by rw [e]; omega)
  rw [and127 q hq, e1, hpw, e2, u64_or_add p (q % 128) (128 ^ k) (7 * k) hk hp (by rw [Nat.mul_comm]; exact hb), Nat.mul_comm (128 ^ k)]
theorem pow128_le (k : Nat) (hk : k < 9) : 128 ^ k * 128 ≤ 9223372036854775808 := by
  rw [← Nat.pow_succ]
  exact Nat.le_trans (Nat.pow_le_pow_right (by omega) (show k + 1 ≤ 9 by omega)) (by decide)

/-- What reading a number says. -/
def ReadNum (g b : Nat) (l : List UInt8) (bad : Bool) (most : Nat) (w : World) (e : Ending) (w' : World) : Prop :=
  (∀ v k, rd 0 l = some (v, k) → v ≤ most → e = .returned (.int .u64 (v : Nat)) ∧ EyeAt w' g b (l.drop k) bad) ∧
  ((∀ v k, rd 0 l = some (v, k) → ¬ v ≤ most) → e = .returned (.int .u64 0) ∧ EyeAt w' g b [] true) ∧ Mod (fun i => i = g) w w'

/-- Where the reading stands behind k bytes, of value p. -/
def At (l : List UInt8) (k p : Nat) : Prop := p < 128 ^ k ∧ rd 0 l = (rd k (l.drop k)).map fun y => (p + 128 ^ k * y.1, k + y.2)

theorem At.zero (l : List UInt8) : At l 0 0 := ⟨by simp, by simp⟩
theorem At.end_ {l : List UInt8} {k p : Nat} (h : At l k p) (hk : l.length ≤ k) : rd 0 l = none := by
  rw [h.2, List.drop_eq_nil_of_le hk]; rfl
theorem At.here {l : List UInt8} {k p : Nat} (h : At l k p) (hk : k < l.length) : rd 0 l = (rd k (l[k] :: l.drop (k + 1))).map fun y => (p + 128 ^ k * y.1, k + y.2) := by
  rw [h.2, List.drop_eq_getElem_cons hk]
theorem At.big9 {l : List UInt8} {k p : Nat} (h9 : k = 9) (h : At l k p) (hk : k < l.length) (hq : 1 < l[k].toNat) : rd 0 l = none := by
  subst h9
  rw [h.here hk, rd]
  split
  · rw [if_pos (.inr ⟨rfl, hq⟩)]; rfl
  · rfl
theorem At.zero_last {l : List UInt8} {k p : Nat} (h : At l k p) (hk : k < l.length) (h0 : 0 < k) (hq : l[k].toNat = 0) : rd 0 l = none := by
  rw [h.here hk, rd, if_pos (by omega), if_pos (.inl ⟨h0, hq⟩)]; rfl
theorem At.last {l : List UInt8} {k p : Nat} (h : At l k p) (hk : k < l.length) (hq : l[k].toNat < 128) (h0 : ¬ (0 < k ∧ l[k].toNat = 0)) (h9 : ¬ (k = 9 ∧ 1 < l[k].toNat)) : rd 0 l = some (p + 128 ^ k * l[k].toNat, k + 1) := by
  rw [h.here hk, rd, if_pos hq, if_neg (by rintro (h | h); exact h0 h; exact h9 h)]; rfl
theorem At.next {l : List UInt8} {k p : Nat} (h : At l k p) (hk : k < l.length) (hq : 128 ≤ l[k].toNat) (h9 : k ≠ 9) : At l (k + 1) (p + 128 ^ k * (l[k].toNat % 128)) := by
  refine ⟨?_, ?_⟩
  · have h1 := h.1
    have h2 : l[k].toNat % 128 + 1 ≤ 128 := by omega
    have h3 := Nat.mul_le_mul_left (128 ^ k) h2
    rw [Nat.pow_succ]
    rw [Nat.mul_add] at h3
    omega
  · rw [h.here hk, rd, if_neg (by omega), if_neg h9, Option.map_map]
    congr 1
    funext y
    simp only [Function.comp, Nat.pow_succ, Prod.mk.injEq]
    refine ⟨?_, by omega⟩
    rw [Nat.mul_add, Nat.mul_assoc]
    omega

theorem ReadNum.none_ {g b : Nat} {l : List UInt8} {bad : Bool} {most : Nat} {w w' : World} (h : rd 0 l = none) (he : EyeAt w' g b [] true) (hm : Mod (fun i => i = g) w w') : ReadNum g b l bad most w (.returned (.int .u64 0)) w' :=
  ⟨fun v k hv => (by rw [h] at hv; cases hv), fun _ => ⟨rfl, he⟩, hm⟩
theorem ReadNum.much {g b : Nat} {l : List UInt8} {bad : Bool} {most v k : Nat} {w w' : World} (h : rd 0 l = some (v, k)) (hv : most < v) (he : EyeAt w' g b [] true) (hm : Mod (fun i => i = g) w w') : ReadNum g b l bad most w (.returned (.int .u64 0)) w' :=
  ⟨fun v' k' hv' hle => by rw [h] at hv'; injection hv' with hv'; injection hv' with h1 h2; omega, fun _ => ⟨rfl, he⟩, hm⟩
theorem ReadNum.ok {g b : Nat} {l : List UInt8} {bad : Bool} {most v k : Nat} {w w' : World} (h : rd 0 l = some (v, k)) (hv : v ≤ most) (he : EyeAt w' g b (l.drop k) bad) (hm : Mod (fun i => i = g) w w') : ReadNum g b l bad most w (.returned (.int .u64 (v : Nat))) w' := by
  refine ⟨fun v' k' hv' _ => ?_, fun hn => absurd hv (hn v k h), hm⟩
  rw [h] at hv'
  injection hv' with hv'
  injection hv' with h1 h2
  subst h1
  subst h2
  exact ⟨rfl, he⟩
theorem Mod.step {g : Nat} {a b c : World} (h : Mod (fun i => i = g) a b) (k : Mod (fun i => i = g) b c) : Mod (fun i => i = g) a c := h.trans k (fun _ _ h => h) (fun _ _ h => h)

set_option maxHeartbeats 1000000 in
set_option maxRecDepth 20000 in
theorem EyeNum_calls (g b : Nat) (l : List UInt8) (bad : Bool) (most : Nat) (w : World) (he : EyeAt w g b l bad) (hm : most ≤ 18446744073709551615) :
    Calls Tryd.prog 38 #[.pointer (some ⟨g, 0, none⟩), .int .u64 most] w (ReadNum g b l bad most w) := by
  have HM := Lib.hid hm
  clear hm
  go_enter Tryd.func38, Tryd.ntmps38
  go_wp2_with fail
  go_loopw [5, 8] (fun x i wr => ∃ k p : Nat, k ≤ 9 ∧ k ≤ l.length ∧ i = .int .i64 k ∧ x = .int .u64 p ∧ Hid (At l k p) ∧ EyeAt wr g b (l.drop k) bad ∧ Mod (fun i => i = g) w wr) (fun _ i _ => 10 - (intOf i).toNat)
  case atStart => exact ⟨0, 0, by omega, by omega, rfl, rfl, Lib.hid (At.zero l), he, Mod.refl _ _⟩
  case round =>
    obtain ⟨k, p, hk, hkl, rfl, rfl, hp, he1, hmod⟩ := hrel
    clear he
    by_cases hlt : k < l.length
    · have hx : valN ((l.drop k).take 1) = l[k].toNat := by
        rw [List.drop_eq_getElem_cons hlt, List.take_succ_cons, List.take_zero, valN_cons]
        simp [valN]
      have HX := Lib.hid hx
      clear hx
      obtain ⟨q, hq⟩ : ∃ q, q = l[k] := ⟨_, rfl⟩
      have HQ := Lib.hid hq
      clear hq
      have hq8 := q.toNat_lt
      have hdr : l.drop (k + 1) = (l.drop k).drop 1 := by simp
      have HD := Lib.hid hdr
      clear hdr
      rcases Nat.lt_or_ge k 9 with h9 | h9
      · have h9' : ((k : Int) == 9) = false := by simp; omega
        have hor := num_or p q.toNat k hq8 hp.out.1 (by have h1 := hp.out.1; have h2 := pow128_le k h9; have h3 : 128 ^ k * (q.toNat % 128) ≤ 128 ^ k * 127 := Nat.mul_le_mul_left _ (by omega); omega)
        obtain ⟨p', hp'⟩ : ∃ p', p' = p + 128 ^ k * (q.toNat % 128) := ⟨_, rfl⟩
        rw [← hp'] at hor
        have HP := Lib.hid hp'
        clear hp'
        by_cases hge : 128 ≤ q.toNat
        · go_wp2_with fail
          refine (EyeByte_calls g b _ bad _ he1).mono ?_
          rintro e w1 ⟨hy, _⟩
          obtain ⟨rfl, he2, hm2⟩ := hy (by simp; omega)
          rw [HX.out, ← HQ.out]
          clear hy he1
          go_wp2_with fail
          go_roundw
          case rel => exact ⟨k + 1, p', by omega, by omega, by go_num, rfl, Lib.hid (by rw [HP.out, HQ.out]; exact hp.out.next hlt (by rw [← HQ.out]; exact hge) (by omega)), he2.castl HD.out.symm, hmod.step hm2⟩
          case measure => simp [intOf]; omega
        · have hq7 : q.toNat < 128 := by omega
          by_cases hz : 0 < k ∧ q.toNat = 0
          · have hr : rd 0 l = none := hp.out.zero_last hlt hz.1 (by rw [← HQ.out]; exact hz.2)
            have HR := Lib.hid hr
            clear hr
            have hk0 : (0 : Int) < (k : Int) := by omega
            have hq0 : ((q.toNat : Int) == 0) = true := by simp [hz.2]
            have hz1 := hz.1
            have hz2 : q.toNat ≤ 0 := by omega
            clear hz
            by_cases hmo : most < p'
            all_goals
              go_wp2_with fail
              refine (EyeByte_calls g b _ bad _ he1).mono ?_
              rintro e w1 ⟨hy, _⟩
              obtain ⟨rfl, he2, hm2⟩ := hy (by simp; omega)
              rw [HX.out, ← HQ.out]
              clear hy he1
              go_wp2_with fail
              refine (fail_calls g b _ _ _ he2).mono ?_
              rintro e w2 ⟨rfl, he3, hm3⟩
              go_wp2_with fail
              go_ret
              exact ReadNum.none_ HR.out he3 ((hmod.step hm2).step hm3)
          · have hr := hp.out.last hlt (by rw [← HQ.out]; exact hq7) (by rw [← HQ.out]; exact hz) (by omega)
            rw [← HQ.out, show 128 ^ k * q.toNat = 128 ^ k * (q.toNat % 128) by rw [Nat.mod_eq_of_lt hq7], ← HP.out] at hr
            have HR := Lib.hid hr
            clear hr
            have hzz : ¬ (0 : Int) < (k : Int) ∨ ((q.toNat : Int) == 0) = false := by
              rcases Nat.eq_zero_or_pos k with h | h
              · exact .inl (by omega)
              · refine .inr ?_
                simp only [beq_eq_false_iff_ne, ne_eq]
                omega
            clear hz
            by_cases hmo : most < p'
            · go_wp2_with fail
              refine (EyeByte_calls g b _ bad _ he1).mono ?_
              rintro e w1 ⟨hy, _⟩
              obtain ⟨rfl, he2, hm2⟩ := hy (by simp; omega)
              rw [HX.out, ← HQ.out]
              clear hy he1 hzz
              go_wp2_with fail
              refine (fail_calls g b _ _ _ he2).mono ?_
              rintro e w2 ⟨rfl, he3, hm3⟩
              go_wp2_with fail
              go_ret
              exact ReadNum.much HR.out hmo he3 ((hmod.step hm2).step hm3)
            · rcases hzz with hzz | hzz
              all_goals
                go_wp2_with fail
                refine (EyeByte_calls g b _ bad _ he1).mono ?_
                rintro e w1 ⟨hy, _⟩
                obtain ⟨rfl, he2, hm2⟩ := hy (by simp; omega)
                rw [HX.out, ← HQ.out]
                clear hy he1
                go_wp2_with fail
                all_goals
                  go_ret
                  exact ReadNum.ok HR.out (by omega) (he2.castl HD.out.symm) (hmod.step hm2)
      · have hk9 : k = 9 := by omega
        have HK := Lib.hid hk9
        clear hk9
        have h9' : ((k : Int) == 9) = true := by simp [HK.out]
        rcases Nat.lt_or_ge 1 q.toNat with hbig | hsm
        · have hr := At.big9 HK.out hp.out hlt (by rw [← HQ.out]; exact hbig)
          have HR := Lib.hid hr
          clear hr
          go_wp2_with fail
          refine (EyeByte_calls g b _ bad _ he1).mono ?_
          rintro e w1 ⟨hy, _⟩
          obtain ⟨rfl, he2, hm2⟩ := hy (by simp; omega)
          rw [HX.out, ← HQ.out]
          clear hy he1
          go_wp2_with fail
          refine (fail_calls g b _ _ _ he2).mono ?_
          rintro e w2 ⟨rfl, he3, hm3⟩
          go_wp2_with fail
          go_ret
          exact ReadNum.none_ HR.out he3 ((hmod.step hm2).step hm3)
        · have hor := num_or p q.toNat k hq8 hp.out.1 (by
            have h1 := hp.out.1
            have h2 : (128 : Nat) ^ 9 = 9223372036854775808 := by decide
            rw [HK.out, h2] at h1
            rw [HK.out, h2]
            omega)
          obtain ⟨p', hp'⟩ : ∃ p', p' = p + 128 ^ k * (q.toNat % 128) := ⟨_, rfl⟩
          rw [← hp'] at hor
          have HP := Lib.hid hp'
          clear hp'
          rcases Nat.eq_zero_or_pos q.toNat with h0 | h0
          · have hr : rd 0 l = none := hp.out.zero_last hlt (by omega) (by rw [← HQ.out]; exact h0)
            have HR := Lib.hid hr
            have hq0 : ((q.toNat : Int) == 0) = true := by simp [h0]
            have h0' : q.toNat ≤ 0 := by omega
            clear hr h0
            by_cases hmo : most < p'
            all_goals
              go_wp2_with fail
              refine (EyeByte_calls g b _ bad _ he1).mono ?_
              rintro e w1 ⟨hy, _⟩
              obtain ⟨rfl, he2, hm2⟩ := hy (by simp; omega)
              rw [HX.out, ← HQ.out]
              clear hy he1
              go_wp2_with fail
              refine (fail_calls g b _ _ _ he2).mono ?_
              rintro e w2 ⟨rfl, he3, hm3⟩
              go_wp2_with fail
              go_ret
              exact ReadNum.none_ HR.out he3 ((hmod.step hm2).step hm3)
          · have hr := hp.out.last hlt (by rw [← HQ.out]; omega) (by rw [← HQ.out]; omega) (by rw [← HQ.out]; omega)
            rw [← HQ.out, show 128 ^ k * q.toNat = 128 ^ k * (q.toNat % 128) by rw [Nat.mod_eq_of_lt (by omega)], ← HP.out] at hr
            have HR := Lib.hid hr
            have hq0 : ((q.toNat : Int) == 0) = false := by simp only [beq_eq_false_iff_ne, ne_eq]; omega
            clear hr
            by_cases hmo : most < p'
            · go_wp2_with fail
              refine (EyeByte_calls g b _ bad _ he1).mono ?_
              rintro e w1 ⟨hy, _⟩
              obtain ⟨rfl, he2, hm2⟩ := hy (by simp; omega)
              rw [HX.out, ← HQ.out]
              clear hy he1
              go_wp2_with fail
              refine (fail_calls g b _ _ _ he2).mono ?_
              rintro e w2 ⟨rfl, he3, hm3⟩
              go_wp2_with fail
              go_ret
              exact ReadNum.much HR.out hmo he3 ((hmod.step hm2).step hm3)
            · go_wp2_with fail
              refine (EyeByte_calls g b _ bad _ he1).mono ?_
              rintro e w1 ⟨hy, _⟩
              obtain ⟨rfl, he2, hm2⟩ := hy (by simp; omega)
              rw [HX.out, ← HQ.out]
              clear hy he1
              go_wp2_with fail
              go_ret
              exact ReadNum.ok HR.out (by omega) (he2.castl HD.out.symm) (hmod.step hm2)
    · have hr := hp.out.end_ (by omega)
      have HR := Lib.hid hr
      clear hr
      have hn0 : (l.drop k).length < 1 := by simp; omega
      have hor := num_or p 0 k (by omega) hp.out.1 (by
        have h1 := hp.out.1
        have h2 : (128 : Nat) ^ k ≤ 128 ^ 9 := Nat.pow_le_pow_right (by omega) hk
        have h3 : (128 : Nat) ^ 9 = 9223372036854775808 := by decide
        omega)
      simp only [Nat.zero_mod, Nat.mul_zero, Nat.add_zero, Int.natCast_zero] at hor
      rcases Nat.eq_zero_or_pos k with hk0 | hk0
      · have hp0 : p = 0 := by have := hp.out.1; rw [hk0] at this; simp at this; exact this
        have HP := Lib.hid hp0
        have hk0' : ¬ (0 : Int) < (k : Int) := by omega
        have h9' : ((k : Int) == 9) = false := by simp; omega
        have hmo : ¬ most < p := by omega
        clear hp0 hk0
        go_wp2_with fail
        refine (EyeByte_calls g b _ bad _ he1).mono ?_
        rintro e w1 ⟨_, hy⟩
        obtain ⟨rfl, he2, hm2⟩ := hy hn0
        clear hy he1
        go_wp2_with fail
        go_ret
        have hz := HP.out
        rw [hz]
        exact ReadNum.none_ HR.out he2 (hmod.step hm2)
      · have hk0' : (0 : Int) < (k : Int) := by omega
        have h9' : ((k : Int) == 9) = false ∨ ((k : Int) == 9) = true := by cases ((k : Int) == 9) <;> simp
        rcases h9' with h9' | h9'
        all_goals
          by_cases hmo : most < p
          all_goals
            go_wp2_with fail
            refine (EyeByte_calls g b _ bad _ he1).mono ?_
            rintro e w1 ⟨_, hy⟩
            obtain ⟨rfl, he2, hm2⟩ := hy hn0
            clear hy he1
            go_wp2_with fail
            refine (fail_calls g b _ _ _ he2).mono ?_
            rintro e w2 ⟨rfl, he3, hm3⟩
            go_wp2_with fail
            go_ret
            exact ReadNum.none_ HR.out he3 ((hmod.step hm2).step hm3)
end Go.Proofs.YtfckgfoimpileaaDoor
/- An eye's reads as functions of what is left. Conditions: as those of the reads. -/
namespace Go.Proofs.YtfckgfoimpileaaDoor
open Go.RowKit

/-- Off the front, k bytes: their value, what is left, and whether it is wrong. -/
def rdN (k : Nat) (l : List UInt8) (bad : Bool) : Nat × List UInt8 × Bool := if k ≤ l.length then (valN (l.take k), l.drop k, bad) else (0, [], true)
theorem rdN_lt (k : Nat) (l : List UInt8) (bad : Bool) : (rdN k l bad).1 < 256 ^ k := by
  unfold rdN
  split
  · rename_i h
    have := valN_lt (l.take k)
    rwa [List.length_take, Nat.min_eq_left h] at this
  · exact Nat.pow_pos (by decide)
theorem rdN_of {g b k : Nat} {l : List UInt8} {bad : Bool} {K : IntKind} {w w' : World} {e : Ending} (h : ReadN g b k l bad K w e w') :
    e = .returned (.int K ((rdN k l bad).1 : Int)) ∧ EyeAt w' g b (rdN k l bad).2.1 (rdN k l bad).2.2 ∧ Mod (fun i => i = g) w w' := by
  by_cases hk : k ≤ l.length
  · unfold rdN
    rw [if_pos hk]
    exact h.1 hk
  · unfold rdN
    rw [if_neg hk]
    exact h.2 (by omega)
theorem rdN_nil {k n : Nat} {l l' : List UInt8} {bad bad' : Bool} (h : rdN k l bad = (n, l', bad')) (hl : l = []) : l' = [] := by
  subst hl
  unfold rdN at h
  split at h
  · injection h with _ h; injection h with h _; rw [← h]; simp
  · injection h with _ h; injection h with h _; exact h.symm
theorem EyeByte_f (g b : Nat) (l : List UInt8) (bad : Bool) (w : World) (he : EyeAt w g b l bad) :
    Calls Tryd.prog 39 #[.pointer (some ⟨g, 0, none⟩)] w fun e w' => ∃ n l' bad', e = .returned (.int .u8 (n : Nat)) ∧ rdN 1 l bad = (n, l', bad') ∧ n < 256 ∧ EyeAt w' g b l' bad' ∧ Mod (fun i => i = g) w w' :=
  (EyeByte_calls g b l bad w he).mono fun e w' h => by
    obtain ⟨h1, h2, h3⟩ := rdN_of h
    exact ⟨_, _, _, h1, rfl, rdN_lt 1 l bad, h2, h3⟩
theorem EyeWord_f (g b : Nat) (l : List UInt8) (bad : Bool) (w : World) (he : EyeAt w g b l bad) :
    Calls Tryd.prog 40 #[.pointer (some ⟨g, 0, none⟩)] w fun e w' => ∃ n l' bad', e = .returned (.int .u32 (n : Nat)) ∧ rdN 4 l bad = (n, l', bad') ∧ n < 4294967296 ∧ EyeAt w' g b l' bad' ∧ Mod (fun i => i = g) w w' :=
  (EyeWord_calls g b l bad w he).mono fun e w' h => by
    obtain ⟨h1, h2, h3⟩ := rdN_of h
    exact ⟨_, _, _, h1, rfl, rdN_lt 4 l bad, h2, h3⟩
/-- A number, at most most. -/
def rdM (most : Nat) (l : List UInt8) (bad : Bool) : Nat × List UInt8 × Bool := match rd 0 l with | some (v, k) => if v ≤ most then (v, l.drop k, bad) else (0, [], true) | none => (0, [], true)
theorem EyeNum_f (g b : Nat) (l : List UInt8) (bad : Bool) (most : Nat) (w : World) (he : EyeAt w g b l bad) (hm : most ≤ 18446744073709551615) :
    Calls Tryd.prog 38 #[.pointer (some ⟨g, 0, none⟩), .int .u64 most] w fun e w' => ∃ n l' bad', e = .returned (.int .u64 (n : Nat)) ∧ rdM most l bad = (n, l', bad') ∧ n ≤ most ∧ EyeAt w' g b l' bad' ∧ Mod (fun i => i = g) w w' :=
  (EyeNum_calls g b l bad most w he hm).mono fun e w' h => by
    obtain ⟨h1, h2, h3⟩ := h
    unfold rdM
    cases hr : rd 0 l with
    | none =>
      obtain ⟨e1, e2⟩ := h2 (fun v k hk => by rw [hr] at hk; cases hk)
      exact ⟨0, [], true, e1, rfl, Nat.zero_le _, e2, h3⟩
    | some y =>
      obtain ⟨v, k⟩ := y
      by_cases hv : v ≤ most
      · obtain ⟨e1, e2⟩ := h1 v k hr hv
        exact ⟨v, l.drop k, bad, e1, by simp only [if_pos hv], hv, e2, h3⟩
      · obtain ⟨e1, e2⟩ := h2 (fun v' k' hk => by rw [hr] at hk; injection hk with hk; injection hk with hk _; rw [← hk]; exact hv)
        exact ⟨0, [], true, e1, by simp only [if_neg hv], Nat.zero_le _, e2, h3⟩
end Go.Proofs.YtfckgfoimpileaaDoor
/- The document's Check; Reals. Conditions: those said. -/
namespace Go.Proofs.YtfckgfoimpileaaDoor
open Go.RowKit

set_option maxHeartbeats 4000000 in
set_option maxRecDepth 20000 in
/-- The document's Check answers what Check does: below 0 where all may be. -/
theorem RCheck_calls (A : Option Addr) (l : List Cd) (n c b : Nat) (cells players : Int) (w : World) (hs : Sl w b A (kv l)) (hn : l.length = n) (hm : n ≤ maxLen) (hok : okK l) (hl0 : -9223372036854775808 ≤ cells) (hl1 : cells ≤ 9223372036854775807) :
    Calls Tryd.prog 13 #[.slice A n c, .int .i64 cells, .int .i64 players] w fun e w' => e = .returned (.int .i64 (if (checkV l cells players).2 = true then -1 else ((checkV l cells players).1 : Nat))) ∧ Below w.heap.size w w' := by
  subst hn
  by_cases hbig : 96 < l.length
  · have e0 : decide ((l.length : Int) > 96) = true := by simp; omega
    have hv : checkV l cells players = (96, false) := by unfold checkV; rw [if_pos hbig]
    rw [hv]
    clear hv
    go_enter Tryd.func13, Tryd.ntmps13
    go_wp2
    go_ret
    exact ⟨rfl, Below.refl _ _⟩
  have e0 : decide ((l.length : Int) > 96) = false := by simp; omega
  have hL : l.length ≤ 96 := by omega
  have hbad := fun k => checkV_bad (l := l) (cells := cells) (players := players) (k := k) hL
  have hgood := checkV_good (l := l) (cells := cells) (players := players) hL
  obtain ⟨V, hV⟩ : ∃ V, V = checkV l cells players := ⟨_, rfl⟩
  rw [← hV] at hgood ⊢
  simp only [← hV] at hbad
  have hF := fun op a b cc n m h W => RRight_calls op a b cc n m h (l.length : Int) cells players (by omega) (by omega) hl0 hl1 W
  have HB := Lib.hid hbad
  have HG := Lib.hid hgood
  clear hV hbad hgood
  obtain ⟨Z, hZ⟩ : ∃ Z : Int, Z = (if V.2 = true then -1 else ((V.1 : Nat) : Int)) := ⟨_, rfl⟩
  rw [← hZ]
  have HZ := Lib.hid hZ
  clear hZ
  go_enter Tryd.func13, Tryd.ntmps13
  go_wp2_with fail
  go_loopw [14] (fun i wr => ∃ k : Nat, k ≤ l.length ∧ i = .int .i64 k ∧ (∀ j (hj : j < k) (hj2 : j < l.length), fitsB l[j] cells ((l.length : Int) + 1) players = true) ∧ Sl wr b A (kv l) ∧ Below w.heap.size w wr) (fun i _ => l.length - (intOf i).toNat)
  case atStart => exact ⟨0, Nat.zero_le _, rfl, fun j hj => by omega, hs, Below.refl _ _⟩
  case round =>
    clear hs
    obtain ⟨k, hk, rfl, hall, hs, hb⟩ := hrel
    have HA := Lib.hid hall
    clear hall
    by_cases hlt : k < l.length
    · have ej : (k : Int) < (l.length : Int) := by omega
      have hck := hok l[k] (List.getElem_mem hlt)
      obtain ⟨off, rfl, c0, c1, c2, c3, c4, c5⟩ := sl_code hs hlt
      have HBk := Lib.hid (HB.out k hlt)
      obtain ⟨x, hx⟩ : ∃ x, x = l[k] := ⟨_, rfl⟩
      have HX := Lib.hid hx
      rw [← hx] at hck c0 c1 c2 c3 c4 c5 HBk
      clear hx
      obtain ⟨op, a, b', cc, n, m⟩ := x
      simp only at c0 c1 c2 c3 c4 c5
      have hFk := fun W => hF op a b' cc n m hck W
      obtain ⟨d, hd⟩ : ∃ d, d = fitsB ⟨op, a, b', cc, n, m⟩ cells ((l.length : Int) + 1) players := ⟨_, rfl⟩
      rw [← hd] at hFk
      have HD := Lib.hid hd
      have hba := below_alloc1 wr (.cells #[.int .u8 (op : Int), .int .u8 (a : Int), .int .u8 (b' : Int), .int .u8 (cc : Int), .int .i32 n, .int .u32 (m : Int)] 55)
      have hs2 := Sl.ext hs hba
      have hb2 := hb.trans (hba.mono hb.size)
      clear hd hs hb hba hF hck
      go_wp2_with fail
      refine (hFk _).mono ?_
      rintro e w6 ⟨rfl, h9⟩
      have hs := Sl.ext hs2 h9
      have hb := hb2.trans (h9.mono hb2.size)
      clear h9 hFk c0 c1 c2 c3 c4 c5 hs2 hb2
      cases d with
      | true =>
        go_wp2_with fail
        go_roundw
        case rel =>
          refine ⟨k + 1, by omega, by go_num, fun j hj hj2 => ?_, hs, hb⟩
          rcases Nat.lt_or_ge j k with h1 | h1
          · exact HA.out j h1 hj2
          · obtain rfl : j = k := by omega
            rw [← HX.out]
            exact HD.out.symm
        case measure => simp [intOf]; omega
      | false =>
        go_wp2_with fail
        go_ret
        have hv := HBk.out HD.out.symm (fun j hj => HA.out j hj (by omega))
        exact ⟨by rw [HZ.out, hv]; rfl, hb⟩
    · obtain rfl : k = l.length := by omega
      go_wp2_with fail
      go_ret
      have hv := HG.out (fun j hj => HA.out j hj hj)
      exact ⟨by rw [HZ.out, hv]; rfl, hb⟩
/-- How many Reveals there are. -/
def realsN (l : List Cd) : Nat := (l.filter fun c => c.op == 22).length
theorem reals_next {l : List Cd} {k : Nat} (h : k < l.length) : realsN (l.take (k + 1)) = realsN (l.take k) + if l[k].op = 22 then 1 else 0 := by
  rw [take_nextK h]
  unfold realsN
  rw [List.filter_append, List.length_append]
  congr 1
  by_cases h1 : l[k].op = 22 <;> simp [h1]
theorem reals_le (l : List Cd) : realsN l ≤ l.length := List.length_filter_le _ _
set_option maxHeartbeats 4000000 in
set_option maxRecDepth 20000 in
theorem Reals_calls (A : Option Addr) (l : List Cd) (n c b : Nat) (w : World) (hs : Sl w b A (kv l)) (hn : l.length = n) (hm : n ≤ 1000000) :
    Calls Tryd.prog 16 #[.slice A n c] w fun e w' => e = .returned (.int .i64 (realsN l : Nat)) ∧ Below w.heap.size w w' := by
  subst hn
  go_enter Tryd.func16, Tryd.ntmps16
  go_wp2_with fail
  go_loopw [3, 8] (fun out i wr => ∃ k : Nat, k ≤ l.length ∧ i = .int .i64 k ∧ out = .int .i64 (realsN (l.take k) : Nat) ∧ Sl wr b A (kv l) ∧ Below w.heap.size w wr) (fun _ i _ => l.length - (intOf i).toNat)
  case atStart => exact ⟨0, Nat.zero_le _, rfl, rfl, hs, Below.refl _ _⟩
  case round =>
    clear hs
    obtain ⟨k, hk, rfl, rfl, hs, hb⟩ := hrel
    by_cases hlt : k < l.length
    · have ej : (k : Int) < (l.length : Int) := by omega
      have hle := reals_le (l.take k)
      rw [List.length_take] at hle
      obtain ⟨off, rfl, c0, c1, c2, c3, c4, c5⟩ := sl_code hs hlt
      have hnx := reals_next hlt
      obtain ⟨R, hR⟩ : ∃ R, R = realsN (l.take k) := ⟨_, rfl⟩
      obtain ⟨x, hx⟩ : ∃ x, x = l[k] := ⟨_, rfl⟩
      rw [← hx] at c0 c1 c2 c3 c4 c5 hnx
      rw [← hR] at hnx hle
      simp only [← hR]
      clear hx hR
      obtain ⟨op, a, b', cc, n, m⟩ := x
      simp only at c0 c1 c2 c3 c4 c5 hnx
      have hw := IntWalk.i64_in ((R : Int) + 1) (by omega)
      have hba := below_alloc1 wr (.cells #[.int .u8 (op : Int), .int .u8 (a : Int), .int .u8 (b' : Int), .int .u8 (cc : Int), .int .i32 n, .int .u32 (m : Int)] 33)
      have hs2 := Sl.ext hs hba
      have hb2 := hb.trans (hba.mono hb.size)
      clear hs hb hba
      by_cases h22 : op = 22
      · have e22 : ((op : Int) == 22) = true := by rw [beq_iff_eq]; omega
        rw [if_pos h22] at hnx
        have HN := Lib.hid hnx
        clear hnx h22
        go_wp2_with fail
        go_roundw
        case rel => exact ⟨k + 1, by omega, by go_num, by rw [HN.out]; go_num, hs2, hb2⟩
        case measure => simp [intOf]; omega
      · have e22 : ((op : Int) == 22) = false := by rw [beq_eq_false_iff_ne]; omega
        rw [if_neg h22] at hnx
        have HN := Lib.hid hnx
        clear hnx h22
        go_wp2_with fail
        go_roundw
        case rel => exact ⟨k + 1, by omega, by go_num, by rw [HN.out]; rfl, hs2, hb2⟩
        case measure => simp [intOf]; omega
    · obtain rfl : k = l.length := by omega
      have hl : realsN (l.take l.length) = realsN l := by rw [List.take_length]
      go_wp2_with fail
      go_ret
      exact ⟨by rw [← hl]; rfl, hb⟩
end Go.Proofs.YtfckgfoimpileaaDoor
/- Bytes of instructions. Conditions: the numbers fit. -/
namespace Go.Proofs.YtfckgfoimpileaaDoor
open Go.RowKit

def uN (x : Int) : Nat := (x % 4294967296).toNat
theorem uN_lt (x : Int) : uN x < 4294967296 := by unfold uN; omega
theorem uN_wrap (x : Int) : IntKind.u32.wrap x = ((uN x : Nat) : Int) := by rw [IntKind.wrap_u32]; unfold uN; omega
theorem uN_mod (x : Int) : x % 4294967296 = ((uN x : Nat) : Int) := by unfold uN; omega
/-- What is written of an instruction. -/
def codeB (c : Cd) : List UInt8 := low c.op 1 ++ (low c.a 1 ++ (low c.b 1 ++ (low c.c 1 ++ (low (uN c.n) 4 ++ low c.m 4))))
def rowsB (l : List Cd) (k : Nat) : List UInt8 := (l.take k).flatMap codeB
def codesB (l : List Cd) : List UInt8 := num l.length ++ rowsB l l.length
theorem rowsB_next {l : List Cd} {k : Nat} (h : k < l.length) : rowsB l (k + 1) = rowsB l k ++ codeB l[k] := by
  unfold rowsB
  rw [take_nextK h, List.flatMap_append]
  simp
theorem codeB_len (c : Cd) : (codeB c).length = 12 := by simp [codeB]
theorem rowsB_len (l : List Cd) (k : Nat) (h : k ≤ l.length) : (rowsB l k).length = 12 * k := by
  induction k with
  | zero => simp [rowsB]
  | succ k ih => rw [rowsB_next (by omega), List.length_append, ih (by omega), codeB_len]; omega
theorem num_le (n : Nat) : (num n).length ≤ 10 := numF_length 10 n
theorem pen_undrew {g : Nat} {r r' : Option Nat} {a w : World} (h : PenStep g r r' a.drew w) : PenStep g r r' a w := ⟨h.1, h.2.os, h.2.tape, h.2.output, h.2.size, h.2.block⟩
theorem pen_drew {w : World} {g : Nat} {r : Option Nat} {l : List UInt8} (h : PenAt w g r l) : PenAt w.drew g r l := h
theorem pen_next {g N B : Nat} {r r' : Option Nat} {w w' : World} (hst : PenStep g r r' w w') (hr : ∀ j, r = some j → N ≤ j ∧ j ≠ B) (hN : N ≤ w.heap.size) (hB : B < w.heap.size) : ∀ j, r' = some j → N ≤ j ∧ j ≠ B := fun j hj => by
  rcases hst.1 with h | ⟨q, h, hq⟩
  · exact hr j (h ▸ hj)
  · have e := h.symm.trans hj
    injection e with e
    omega
theorem pen_not {g N B b : Nat} {r : Option Nat} (hr : ∀ j, r = some j → N ≤ j ∧ j ≠ B) (hg : b ≠ g) (hb : b < N ∨ b = B) : ¬(b = g ∨ r = some b) := fun h => by
  rcases h with h | h
  · exact hg h
  · have := hr b h; omega
theorem pen_below {g N B M : Nat} {r r' : Option Nat} {w w' : World} (hst : PenStep g r r' w w') (hr : ∀ j, r = some j → N ≤ j ∧ j ≠ B) (hM : M ≤ w.heap.size) (hg : M ≤ g) (hN : M ≤ N) : Below M w w' :=
  hst.2.below hM fun i hi h => by
    rcases h with h | h
    · omega
    · have := hr i h; omega
theorem sl_modK {w w' : World} {b : Nat} {A : Option Addr} {L : List Cd} (h : Sl w b A (kv L)) {S : Nat → Prop} (hm : Mod S w w') (hs : 0 < L.length → ¬ S b) : Sl w' b A (kv L) := by
  by_cases hl : L.length = 0
  · have : L = [] := List.eq_nil_of_length_eq_zero hl
    subst this; exact Sl.nil_ _ _ _
  · exact Sl.mod h hm (hs (by omega))
theorem own_lowK {w : World} {B B' n sz : Nat} {e : TypeId} {v : Value} {xs : List Value} (h : w.ownsRow B e sz v n xs) (hB : B' ≤ B) : w.ownsRow B' e sz v n xs := by
  refine ⟨h.1, ?_⟩
  rcases h.2 with h2 | ⟨g, cap, cur, rfl, hg, r⟩
  · exact .inl h2
  · exact .inr ⟨g, cap, cur, rfl, by omega, r⟩
theorem CBytes_out (A : Option Addr) (n c : Nat) (w : World) (hbig : 96 < n) :
    Calls Tryd.prog 18 #[.slice A n c] w fun e w' => e = .returned (.slice none 0 0) ∧ w' = w := by
  have e0 : decide ((n : Int) > 96) = true := by simp; omega
  go_enter Tryd.func18, Tryd.ntmps18
  go_wp2
  go_ret
  exact ⟨rfl, rfl⟩
set_option maxHeartbeats 16000000 in
set_option maxRecDepth 20000 in
theorem CBytes_in (A : Option Addr) (l : List Cd) (n c b : Nat) (w : World) (hs : Sl w b A (kv l)) (hn : l.length = n) (hL : n ≤ 96) (hok : okK l) :
    Calls Tryd.prog 18 #[.slice A n c] w fun e w' => ∃ v, e = .returned v ∧ Row w' w.heap.size v (codesB l) ∧ Below w.heap.size w w' := by
  subst hn
  have e0 : decide ((l.length : Int) > 96) = false := by simp; omega
  have hnw : IntKind.u64.wrap (l.length : Int) = (l.length : Int) := IntWalk.u64_in _ (by omega)
  have hlb : 0 < l.length → b < w.heap.size := fun h => Sl.lt hs (by intro h0; have h1 := congrArg List.length h0; rw [kv_length, List.length_nil] at h1; omega)
  have h9 := below_alloc1 w (.cells #[.slice none 0 0] 73)
  have hp : PenAt (w.alloc (.cells #[.slice none 0 0] 73)) w.heap.size none [] := ⟨.slice none 0 0, heap_alloc_new w _, Row.nil_ _ _, rfl⟩
  have hs := Sl.ext hs h9
  have hb := h9
  have hnl := num_le l.length
  have hzp : w.heap.size < (w.alloc (.cells #[.slice none 0 0] 73)).heap.size := by simp
  have hrr : ∀ j, (none : Option Nat) = some j → w.heap.size ≤ j ∧ j ≠ w.heap.size := fun j hj => by cases hj
  clear h9
  go_enter Tryd.func18, Tryd.ntmps18
  go_wp2_with fail
  (with_reducible refine (PenNum_calls _ none [] l.length _ hp (by omega) (by simp)).mono ?_)
  rintro e w2 ⟨rfl, r2, hp, hst⟩
  have hs9 := hst.2.size
  have hs := sl_modK hs hst.2 (fun h0 => pen_not hrr (by have := hlb h0; omega) (.inl (hlb h0)))
  have hb := hb.trans (pen_below hst hrr (by have := hb.size; omega) (by omega) (by omega))
  have hrr := pen_next hst hrr (by omega) (by omega)
  have hzp := Nat.lt_of_lt_of_le hzp hs9
  clear hst hs9
  rw [List.nil_append] at hp
  have hp : PenAt w2 w.heap.size r2 (num l.length ++ rowsB l 0) := hp.cast (by simp [rowsB])
  obtain ⟨NL, hNL⟩ : ∃ N, N = num l.length := ⟨_, rfl⟩
  have hcod : codesB l = NL ++ rowsB l l.length := by rw [hNL]; rfl
  rw [← hNL] at hp hnl
  have HCOD := Lib.hid hcod
  clear hNL hcod
  go_wp2_with fail
  have hs9 := hs
  repeat clear hs
  have hp9 := hp
  repeat clear hp
  have hrr9 := hrr
  repeat clear hrr
  have hzp9 := hzp
  repeat clear hzp
  have hb9 := hb
  repeat clear hb
  go_loopw [15] (fun i wr => ∃ (k : Nat) (r : Option Nat), k ≤ l.length ∧ i = .int .i64 k ∧ Sl wr b A (kv l) ∧ PenAt wr w.heap.size r (NL ++ rowsB l k) ∧ (∀ j, r = some j → w.heap.size ≤ j ∧ True) ∧ w.heap.size < wr.heap.size ∧ Below w.heap.size w wr) (fun i _ => l.length - (intOf i).toNat)
  case atStart => exact ⟨0, r2, Nat.zero_le _, rfl, hs9, hp9, fun j hj => ⟨(hrr9 j hj).1, trivial⟩, hzp9, hb9⟩
  case round =>
    clear hs9 hp9 hrr9 hzp9 hb9
    obtain ⟨k, r, hk, rfl, hs, hp, hrr, hzp, hb⟩ := hrel
    by_cases hlt : k < l.length
    · have hl1 := hlb (by omega)
      have hrl := rowsB_len l k (by omega)
      have hsn := rowsB_next hlt
      have hck := hok l[k] (List.getElem_mem hlt)
      obtain ⟨off, rfl, c0, c1, c2, c3, c4, c5⟩ := sl_code hs hlt
      obtain ⟨x, hx⟩ : ∃ x, x = l[k] := ⟨_, rfl⟩
      rw [← hx] at hck c0 c1 c2 c3 c4 c5 hsn
      clear hx
      obtain ⟨op, a, b', cc, n, m⟩ := x
      obtain ⟨k0, k1, k2, k3, k4, k5, k6⟩ := hck
      simp only at c0 c1 c2 c3 c4 c5 k0 k1 k2 k3 k4 k5 k6
      have hu1 := uN_wrap n
      have hu2 := uN_mod n
      have hul := uN_lt n
      have hcb : codeB ⟨op, a, b', cc, n, m⟩ = low op 1 ++ (low a 1 ++ (low b' 1 ++ (low cc 1 ++ (low (uN n) 4 ++ low m 4)))) := rfl
      obtain ⟨u, hu⟩ : ∃ u, u = uN n := ⟨_, rfl⟩
      rw [← hu] at hu1 hu2 hul hcb
      rw [hcb] at hsn
      have HS := Lib.hid hsn
      have HRL := Lib.hid hrl
      have ej : (k : Int) < (l.length : Int) := by omega
      clear hu hcb hsn hrl
      have kx := heap_alloc_new wr (.cells #[.int .u8 (op : Int), .int .u8 (a : Int), .int .u8 (b' : Int), .int .u8 (cc : Int), .int .i32 n, .int .u32 (m : Int)] 33)
      have hp0 := hp
      have h9 := below_alloc1 wr (.cells #[.int .u8 (op : Int), .int .u8 (a : Int), .int .u8 (b' : Int), .int .u8 (cc : Int), .int .i32 n, .int .u32 (m : Int)] 33)
      have hp := PenAt.ext hp h9
      have hs := Sl.ext hs h9
      have hb := hb.trans (h9.mono hb.size)
      have hrr : ∀ j, r = some j → w.heap.size ≤ j ∧ j ≠ wr.heap.size := fun j hj => ⟨(hrr j hj).1, by have := PenAt.row_lt hp0 j hj; omega⟩
      have hzw := hzp
      have hzp : wr.heap.size < (wr.alloc (.cells #[.int .u8 (op : Int), .int .u8 (a : Int), .int .u8 (b' : Int), .int .u8 (cc : Int), .int .i32 n, .int .u32 (m : Int)] 33)).heap.size := by simp
      clear hp0 h9
      go_wp2_with fail
      clear c0 c1 c2 c3 c4 c5
      refine wp_region_held_drew (S := fun w' => w'.heap[wr.heap.size]? = some (.cells #[.int .u8 (op : Int), .int .u8 (a : Int), .int .u8 (b' : Int), .int .u8 (cc : Int), .int .i32 n, .int .u32 (m : Int)] 33 (0, 0))) (by kernel_rfl) ?_ (fun hHeld => ?_)
      · exact kx
      refine wpAnyH_take (i := 0) (v := ?zv0) (by simp only [List.getElem?_toArray, List.getElem?_cons_zero]; rfl) (by kernel_rfl) (by kernel_rfl) (by kernel_rfl) (by exact fun _ _ _ h => h) (Or.inl ⟨by rfl, ?zy0⟩) hHeld ?_
      case zy0 => (intro w hSw; (try dsimp only at hSw); have hy0 := (cell_of_row _ _ 0 _ _ _ hSw).trans (show _ = some _ from rfl); have hy1 := (cell_of_row _ _ 1 _ _ _ hSw).trans (show _ = some _ from rfl); have hy2 := (cell_of_row _ _ 2 _ _ _ hSw).trans (show _ = some _ from rfl); have hy3 := (cell_of_row _ _ 3 _ _ _ hSw).trans (show _ = some _ from rfl); have hy4 := (cell_of_row _ _ 4 _ _ _ hSw).trans (show _ = some _ from rfl); have hy5 := (cell_of_row _ _ 5 _ _ _ hSw).trans (show _ = some _ from rfl); clear hSw; go_simp; try (with_reducible rfl))
      try simp only [Act.put, List.setIfInBounds_toArray, List.set_cons_zero, List.set_cons_succ]
      refine wpAnyH_take (i := 1) (v := ?zv1) (by simp only [List.getElem?_toArray, List.getElem?_cons_succ, List.getElem?_cons_zero]; rfl) (by kernel_rfl) (by kernel_rfl) (by kernel_rfl) (by exact fun _ _ _ h => h) (Or.inl ⟨by rfl, ?zy1⟩) hHeld ?_
      case zy1 => (intro w hSw; (try dsimp only at hSw); have hy0 := (cell_of_row _ _ 0 _ _ _ hSw).trans (show _ = some _ from rfl); have hy1 := (cell_of_row _ _ 1 _ _ _ hSw).trans (show _ = some _ from rfl); have hy2 := (cell_of_row _ _ 2 _ _ _ hSw).trans (show _ = some _ from rfl); have hy3 := (cell_of_row _ _ 3 _ _ _ hSw).trans (show _ = some _ from rfl); have hy4 := (cell_of_row _ _ 4 _ _ _ hSw).trans (show _ = some _ from rfl); have hy5 := (cell_of_row _ _ 5 _ _ _ hSw).trans (show _ = some _ from rfl); clear hSw; go_simp; try (with_reducible rfl))
      try simp only [Act.put, List.setIfInBounds_toArray, List.set_cons_zero, List.set_cons_succ]
      refine wpAnyH_take (i := 3) (v := ?zv3) (by simp only [List.getElem?_toArray, List.getElem?_cons_succ, List.getElem?_cons_zero]; rfl) (by kernel_rfl) (by kernel_rfl) (by kernel_rfl) (by exact fun _ _ _ h => h) (Or.inl ⟨by rfl, ?zy3⟩) hHeld ?_
      case zy3 => (intro w hSw; (try dsimp only at hSw); have hy0 := (cell_of_row _ _ 0 _ _ _ hSw).trans (show _ = some _ from rfl); have hy1 := (cell_of_row _ _ 1 _ _ _ hSw).trans (show _ = some _ from rfl); have hy2 := (cell_of_row _ _ 2 _ _ _ hSw).trans (show _ = some _ from rfl); have hy3 := (cell_of_row _ _ 3 _ _ _ hSw).trans (show _ = some _ from rfl); have hy4 := (cell_of_row _ _ 4 _ _ _ hSw).trans (show _ = some _ from rfl); have hy5 := (cell_of_row _ _ 5 _ _ _ hSw).trans (show _ = some _ from rfl); clear hSw; go_simp; try (with_reducible rfl))
      try simp only [Act.put, List.setIfInBounds_toArray, List.set_cons_zero, List.set_cons_succ]
      refine wpAnyH_take (i := 4) (v := ?zv4) (by simp only [List.getElem?_toArray, List.getElem?_cons_succ, List.getElem?_cons_zero]; rfl) (by kernel_rfl) (by kernel_rfl) (by kernel_rfl) (by exact fun _ _ _ h => h) (Or.inl ⟨by rfl, ?zy4⟩) hHeld ?_
      case zy4 => (intro w hSw; (try dsimp only at hSw); have hy0 := (cell_of_row _ _ 0 _ _ _ hSw).trans (show _ = some _ from rfl); have hy1 := (cell_of_row _ _ 1 _ _ _ hSw).trans (show _ = some _ from rfl); have hy2 := (cell_of_row _ _ 2 _ _ _ hSw).trans (show _ = some _ from rfl); have hy3 := (cell_of_row _ _ 3 _ _ _ hSw).trans (show _ = some _ from rfl); have hy4 := (cell_of_row _ _ 4 _ _ _ hSw).trans (show _ = some _ from rfl); have hy5 := (cell_of_row _ _ 5 _ _ _ hSw).trans (show _ = some _ from rfl); clear hSw; go_simp; try (with_reducible rfl))
      try simp only [Act.put, List.setIfInBounds_toArray, List.set_cons_zero, List.set_cons_succ]
      refine wpAnyH_take (i := 6) (v := ?zv6) (by simp only [List.getElem?_toArray, List.getElem?_cons_succ, List.getElem?_cons_zero]; rfl) (by kernel_rfl) (by kernel_rfl) (by kernel_rfl) (by exact fun _ _ _ h => h) (Or.inl ⟨by rfl, ?zy6⟩) hHeld ?_
      case zy6 => (intro w hSw; (try dsimp only at hSw); have hy0 := (cell_of_row _ _ 0 _ _ _ hSw).trans (show _ = some _ from rfl); have hy1 := (cell_of_row _ _ 1 _ _ _ hSw).trans (show _ = some _ from rfl); have hy2 := (cell_of_row _ _ 2 _ _ _ hSw).trans (show _ = some _ from rfl); have hy3 := (cell_of_row _ _ 3 _ _ _ hSw).trans (show _ = some _ from rfl); have hy4 := (cell_of_row _ _ 4 _ _ _ hSw).trans (show _ = some _ from rfl); have hy5 := (cell_of_row _ _ 5 _ _ _ hSw).trans (show _ = some _ from rfl); clear hSw; go_simp; try (with_reducible rfl))
      try simp only [Act.put, List.setIfInBounds_toArray, List.set_cons_zero, List.set_cons_succ]
      refine wpAnyH_take (i := 7) (v := ?zv7) (by simp only [List.getElem?_toArray, List.getElem?_cons_succ, List.getElem?_cons_zero]; rfl) (by kernel_rfl) (by kernel_rfl) (by kernel_rfl) (by exact fun _ _ _ h => h) (Or.inl ⟨by rfl, ?zy7⟩) hHeld ?_
      case zy7 => (intro w hSw; (try dsimp only at hSw); have hy0 := (cell_of_row _ _ 0 _ _ _ hSw).trans (show _ = some _ from rfl); have hy1 := (cell_of_row _ _ 1 _ _ _ hSw).trans (show _ = some _ from rfl); have hy2 := (cell_of_row _ _ 2 _ _ _ hSw).trans (show _ = some _ from rfl); have hy3 := (cell_of_row _ _ 3 _ _ _ hSw).trans (show _ = some _ from rfl); have hy4 := (cell_of_row _ _ 4 _ _ _ hSw).trans (show _ = some _ from rfl); have hy5 := (cell_of_row _ _ 5 _ _ _ hSw).trans (show _ = some _ from rfl); clear hSw; go_simp; try (with_reducible rfl))
      try simp only [Act.put, List.setIfInBounds_toArray, List.set_cons_zero, List.set_cons_succ]
      refine wpAnyH_take (i := 9) (v := ?zv9) (by simp only [List.getElem?_toArray, List.getElem?_cons_succ, List.getElem?_cons_zero]; rfl) (by kernel_rfl) (by kernel_rfl) (by kernel_rfl) (by exact fun _ _ _ h => h) (Or.inl ⟨by rfl, ?zy9⟩) hHeld ?_
      case zy9 => (intro w hSw; (try dsimp only at hSw); have hy0 := (cell_of_row _ _ 0 _ _ _ hSw).trans (show _ = some _ from rfl); have hy1 := (cell_of_row _ _ 1 _ _ _ hSw).trans (show _ = some _ from rfl); have hy2 := (cell_of_row _ _ 2 _ _ _ hSw).trans (show _ = some _ from rfl); have hy3 := (cell_of_row _ _ 3 _ _ _ hSw).trans (show _ = some _ from rfl); have hy4 := (cell_of_row _ _ 4 _ _ _ hSw).trans (show _ = some _ from rfl); have hy5 := (cell_of_row _ _ 5 _ _ _ hSw).trans (show _ = some _ from rfl); clear hSw; go_simp; try (with_reducible rfl))
      try simp only [Act.put, List.setIfInBounds_toArray, List.set_cons_zero, List.set_cons_succ]
      refine wpAnyH_take (i := 10) (v := ?zv10) (by simp only [List.getElem?_toArray, List.getElem?_cons_succ, List.getElem?_cons_zero]; rfl) (by kernel_rfl) (by kernel_rfl) (by kernel_rfl) (by exact fun _ _ _ h => h) (Or.inl ⟨by rfl, ?zy10⟩) hHeld ?_
      case zy10 => (intro w hSw; (try dsimp only at hSw); have hy0 := (cell_of_row _ _ 0 _ _ _ hSw).trans (show _ = some _ from rfl); have hy1 := (cell_of_row _ _ 1 _ _ _ hSw).trans (show _ = some _ from rfl); have hy2 := (cell_of_row _ _ 2 _ _ _ hSw).trans (show _ = some _ from rfl); have hy3 := (cell_of_row _ _ 3 _ _ _ hSw).trans (show _ = some _ from rfl); have hy4 := (cell_of_row _ _ 4 _ _ _ hSw).trans (show _ = some _ from rfl); have hy5 := (cell_of_row _ _ 5 _ _ _ hSw).trans (show _ = some _ from rfl); clear hSw; go_simp; try (with_reducible rfl))
      try simp only [Act.put, List.setIfInBounds_toArray, List.set_cons_zero, List.set_cons_succ]
      refine wpAnyH_take (i := 12) (v := ?zv12) (by simp only [List.getElem?_toArray, List.getElem?_cons_succ, List.getElem?_cons_zero]; rfl) (by kernel_rfl) (by kernel_rfl) (by kernel_rfl) (by exact fun _ _ _ h => h) (Or.inl ⟨by rfl, ?zy12⟩) hHeld ?_
      case zy12 => (intro w hSw; (try dsimp only at hSw); have hy0 := (cell_of_row _ _ 0 _ _ _ hSw).trans (show _ = some _ from rfl); have hy1 := (cell_of_row _ _ 1 _ _ _ hSw).trans (show _ = some _ from rfl); have hy2 := (cell_of_row _ _ 2 _ _ _ hSw).trans (show _ = some _ from rfl); have hy3 := (cell_of_row _ _ 3 _ _ _ hSw).trans (show _ = some _ from rfl); have hy4 := (cell_of_row _ _ 4 _ _ _ hSw).trans (show _ = some _ from rfl); have hy5 := (cell_of_row _ _ 5 _ _ _ hSw).trans (show _ = some _ from rfl); clear hSw; go_simp; try (with_reducible rfl))
      try simp only [Act.put, List.setIfInBounds_toArray, List.set_cons_zero, List.set_cons_succ]
      refine wpAnyH_take (i := 13) (v := ?zv13) (by simp only [List.getElem?_toArray, List.getElem?_cons_succ, List.getElem?_cons_zero]; rfl) (by kernel_rfl) (by kernel_rfl) (by kernel_rfl) (by exact fun _ _ _ h => h) (Or.inl ⟨by rfl, ?zy13⟩) hHeld ?_
      case zy13 => (intro w hSw; (try dsimp only at hSw); have hy0 := (cell_of_row _ _ 0 _ _ _ hSw).trans (show _ = some _ from rfl); have hy1 := (cell_of_row _ _ 1 _ _ _ hSw).trans (show _ = some _ from rfl); have hy2 := (cell_of_row _ _ 2 _ _ _ hSw).trans (show _ = some _ from rfl); have hy3 := (cell_of_row _ _ 3 _ _ _ hSw).trans (show _ = some _ from rfl); have hy4 := (cell_of_row _ _ 4 _ _ _ hSw).trans (show _ = some _ from rfl); have hy5 := (cell_of_row _ _ 5 _ _ _ hSw).trans (show _ = some _ from rfl); clear hSw; go_simp; try (with_reducible rfl))
      try simp only [Act.put, List.setIfInBounds_toArray, List.set_cons_zero, List.set_cons_succ]
      refine wpAnyH_take (i := 14) (v := ?zv14) (by simp only [List.getElem?_toArray, List.getElem?_cons_succ, List.getElem?_cons_zero]; rfl) (by kernel_rfl) (by kernel_rfl) (by kernel_rfl) (by exact fun _ _ _ h => h) (Or.inl ⟨by rfl, ?zy14⟩) hHeld ?_
      case zy14 => (intro w hSw; (try dsimp only at hSw); have hy0 := (cell_of_row _ _ 0 _ _ _ hSw).trans (show _ = some _ from rfl); have hy1 := (cell_of_row _ _ 1 _ _ _ hSw).trans (show _ = some _ from rfl); have hy2 := (cell_of_row _ _ 2 _ _ _ hSw).trans (show _ = some _ from rfl); have hy3 := (cell_of_row _ _ 3 _ _ _ hSw).trans (show _ = some _ from rfl); have hy4 := (cell_of_row _ _ 4 _ _ _ hSw).trans (show _ = some _ from rfl); have hy5 := (cell_of_row _ _ 5 _ _ _ hSw).trans (show _ = some _ from rfl); clear hSw; go_simp; try (with_reducible rfl))
      try simp only [Act.put, List.setIfInBounds_toArray, List.set_cons_zero, List.set_cons_succ]
      refine wpAnyH_take (i := 16) (v := ?zv16) (by simp only [List.getElem?_toArray, List.getElem?_cons_succ, List.getElem?_cons_zero]; rfl) (by kernel_rfl) (by kernel_rfl) (by kernel_rfl) (by exact fun _ _ _ h => h) (Or.inl ⟨by rfl, ?zy16⟩) hHeld ?_
      case zy16 => (intro w hSw; (try dsimp only at hSw); have hy0 := (cell_of_row _ _ 0 _ _ _ hSw).trans (show _ = some _ from rfl); have hy1 := (cell_of_row _ _ 1 _ _ _ hSw).trans (show _ = some _ from rfl); have hy2 := (cell_of_row _ _ 2 _ _ _ hSw).trans (show _ = some _ from rfl); have hy3 := (cell_of_row _ _ 3 _ _ _ hSw).trans (show _ = some _ from rfl); have hy4 := (cell_of_row _ _ 4 _ _ _ hSw).trans (show _ = some _ from rfl); have hy5 := (cell_of_row _ _ 5 _ _ _ hSw).trans (show _ = some _ from rfl); clear hSw; go_simp; try (with_reducible rfl))
      try simp only [Act.put, List.setIfInBounds_toArray, List.set_cons_zero, List.set_cons_succ]
      refine wpAnyH_take (i := 17) (v := ?zv17) (by simp only [List.getElem?_toArray, List.getElem?_cons_succ, List.getElem?_cons_zero]; rfl) (by kernel_rfl) (by kernel_rfl) (by kernel_rfl) (by exact fun _ _ _ h => h) (Or.inl ⟨by rfl, ?zy17⟩) hHeld ?_
      case zy17 => (intro w hSw; (try dsimp only at hSw); have hy0 := (cell_of_row _ _ 0 _ _ _ hSw).trans (show _ = some _ from rfl); have hy1 := (cell_of_row _ _ 1 _ _ _ hSw).trans (show _ = some _ from rfl); have hy2 := (cell_of_row _ _ 2 _ _ _ hSw).trans (show _ = some _ from rfl); have hy3 := (cell_of_row _ _ 3 _ _ _ hSw).trans (show _ = some _ from rfl); have hy4 := (cell_of_row _ _ 4 _ _ _ hSw).trans (show _ = some _ from rfl); have hy5 := (cell_of_row _ _ 5 _ _ _ hSw).trans (show _ = some _ from rfl); clear hSw; go_simp; try (with_reducible rfl))
      try simp only [Act.put, List.setIfInBounds_toArray, List.set_cons_zero, List.set_cons_succ]
      refine wpAnyH_ready (rs := [2]) (by kernel_rfl) (by simp) ?_
      refine AllReadyH.cons (by simp only [List.getElem?_toArray, List.getElem?_cons_succ, List.getElem?_cons_zero]; rfl) (fun KK hKK => ?_) AllReadyH.nil
      go_simp
      have hp := pen_drew hp
      (with_reducible refine (PenByte_calls _ r _ op _ hp (by omega) (by have := HRL.out; simp; omega)).mono ?_)
      rintro e w3 ⟨rfl, r3, hp, hst⟩
      have hst := pen_undrew hst
      have hs9 := hst.2.size
      have hs := sl_modK hs hst.2 (fun _ => pen_not hrr (by omega) (.inl hl1))
      have kx := (hst.2.block _ (Array.getElem?_eq_some_iff.1 kx).1 (pen_not hrr (by omega) (.inr rfl))).trans kx
      have hb := hb.trans (pen_below hst hrr (by have := hb.size; omega) (by omega) (by omega))
      have hrr := pen_next hst hrr (by omega) (by omega)
      have hzp := Nat.lt_of_lt_of_le hzp hs9
      clear hst hs9
      go_wp2_with fail
      refine hKK.out _ _ ?_ (fun hHeld => ?_)
      · exact kx
      clear hKK KK
      try simp only [Act.put, List.setIfInBounds_toArray, List.set_cons_zero, List.set_cons_succ]
      refine wpAnyH_ready (rs := [5]) (by kernel_rfl) (by simp) ?_
      refine AllReadyH.cons (by simp only [List.getElem?_toArray, List.getElem?_cons_succ, List.getElem?_cons_zero]; rfl) (fun KK hKK => ?_) AllReadyH.nil
      go_simp
      (with_reducible refine (PenByte_calls _ r3 _ a _ hp (by omega) (by have := HRL.out; simp; omega)).mono ?_)
      rintro e w4 ⟨rfl, r4, hp, hst⟩
      have hs9 := hst.2.size
      have hs := sl_modK hs hst.2 (fun _ => pen_not hrr (by omega) (.inl hl1))
      have kx := (hst.2.block _ (Array.getElem?_eq_some_iff.1 kx).1 (pen_not hrr (by omega) (.inr rfl))).trans kx
      have hb := hb.trans (pen_below hst hrr (by have := hb.size; omega) (by omega) (by omega))
      have hrr := pen_next hst hrr (by omega) (by omega)
      have hzp := Nat.lt_of_lt_of_le hzp hs9
      clear hst hs9
      go_wp2_with fail
      refine hKK.out _ _ ?_ (fun hHeld => ?_)
      · exact kx
      clear hKK KK
      try simp only [Act.put, List.setIfInBounds_toArray, List.set_cons_zero, List.set_cons_succ]
      refine wpAnyH_ready (rs := [8]) (by kernel_rfl) (by simp) ?_
      refine AllReadyH.cons (by simp only [List.getElem?_toArray, List.getElem?_cons_succ, List.getElem?_cons_zero]; rfl) (fun KK hKK => ?_) AllReadyH.nil
      go_simp
      (with_reducible refine (PenByte_calls _ r4 _ b' _ hp (by omega) (by have := HRL.out; simp; omega)).mono ?_)
      rintro e w5 ⟨rfl, r5, hp, hst⟩
      have hs9 := hst.2.size
      have hs := sl_modK hs hst.2 (fun _ => pen_not hrr (by omega) (.inl hl1))
      have kx := (hst.2.block _ (Array.getElem?_eq_some_iff.1 kx).1 (pen_not hrr (by omega) (.inr rfl))).trans kx
      have hb := hb.trans (pen_below hst hrr (by have := hb.size; omega) (by omega) (by omega))
      have hrr := pen_next hst hrr (by omega) (by omega)
      have hzp := Nat.lt_of_lt_of_le hzp hs9
      clear hst hs9
      go_wp2_with fail
      refine hKK.out _ _ ?_ (fun hHeld => ?_)
      · exact kx
      clear hKK KK
      try simp only [Act.put, List.setIfInBounds_toArray, List.set_cons_zero, List.set_cons_succ]
      refine wpAnyH_ready (rs := [11]) (by kernel_rfl) (by simp) ?_
      refine AllReadyH.cons (by simp only [List.getElem?_toArray, List.getElem?_cons_succ, List.getElem?_cons_zero]; rfl) (fun KK hKK => ?_) AllReadyH.nil
      go_simp
      (with_reducible refine (PenByte_calls _ r5 _ cc _ hp (by omega) (by have := HRL.out; simp; omega)).mono ?_)
      rintro e w6 ⟨rfl, r6, hp, hst⟩
      have hs9 := hst.2.size
      have hs := sl_modK hs hst.2 (fun _ => pen_not hrr (by omega) (.inl hl1))
      have kx := (hst.2.block _ (Array.getElem?_eq_some_iff.1 kx).1 (pen_not hrr (by omega) (.inr rfl))).trans kx
      have hb := hb.trans (pen_below hst hrr (by have := hb.size; omega) (by omega) (by omega))
      have hrr := pen_next hst hrr (by omega) (by omega)
      have hzp := Nat.lt_of_lt_of_le hzp hs9
      clear hst hs9
      go_wp2_with fail
      refine hKK.out _ _ ?_ (fun hHeld => ?_)
      · exact kx
      clear hKK KK
      try simp only [Act.put, List.setIfInBounds_toArray, List.set_cons_zero, List.set_cons_succ]
      refine wpAnyH_ready (rs := [15]) (by kernel_rfl) (by simp) ?_
      refine AllReadyH.cons (by simp only [List.getElem?_toArray, List.getElem?_cons_succ, List.getElem?_cons_zero]; rfl) (fun KK hKK => ?_) AllReadyH.nil
      go_simp
      (with_reducible refine (PenWord_calls _ r6 _ u _ hp hul (by have := HRL.out; simp; omega)).mono ?_)
      rintro e w7 ⟨rfl, r7, hp, hst⟩
      have hs9 := hst.2.size
      have hs := sl_modK hs hst.2 (fun _ => pen_not hrr (by omega) (.inl hl1))
      have kx := (hst.2.block _ (Array.getElem?_eq_some_iff.1 kx).1 (pen_not hrr (by omega) (.inr rfl))).trans kx
      have hb := hb.trans (pen_below hst hrr (by have := hb.size; omega) (by omega) (by omega))
      have hrr := pen_next hst hrr (by omega) (by omega)
      have hzp := Nat.lt_of_lt_of_le hzp hs9
      clear hst hs9
      go_wp2_with fail
      refine hKK.out _ _ ?_ (fun hHeld => ?_)
      · exact kx
      clear hKK KK
      try simp only [Act.put, List.setIfInBounds_toArray, List.set_cons_zero, List.set_cons_succ]
      refine wpAnyH_ready (rs := [18]) (by kernel_rfl) (by simp) ?_
      refine AllReadyH.cons (by simp only [List.getElem?_toArray, List.getElem?_cons_succ, List.getElem?_cons_zero]; rfl) (fun KK hKK => ?_) AllReadyH.nil
      go_simp
      (with_reducible refine (PenWord_calls _ r7 _ m _ hp (by omega) (by have := HRL.out; simp; omega)).mono ?_)
      rintro e w8 ⟨rfl, r8, hp, hst⟩
      have hs9 := hst.2.size
      have hs := sl_modK hs hst.2 (fun _ => pen_not hrr (by omega) (.inl hl1))
      have kx := (hst.2.block _ (Array.getElem?_eq_some_iff.1 kx).1 (pen_not hrr (by omega) (.inr rfl))).trans kx
      have hb := hb.trans (pen_below hst hrr (by have := hb.size; omega) (by omega) (by omega))
      have hrr := pen_next hst hrr (by omega) (by omega)
      have hzp := Nat.lt_of_lt_of_le hzp hs9
      clear hst hs9
      go_wp2_with fail
      refine hKK.out _ _ ?_ (fun hHeld => ?_)
      · exact kx
      clear hKK KK
      try simp only [Act.put, List.setIfInBounds_toArray, List.set_cons_zero, List.set_cons_succ]
      refine wpAnyH_done (by kernel_rfl) ?_ _
      have hp : PenAt w8 w.heap.size r8 (NL ++ rowsB l (k + 1)) := hp.cast (by rw [HS.out]; simp only [List.append_assoc])
      have hrr : ∀ j, r8 = some j → w.heap.size ≤ j ∧ True := fun j hj => ⟨(hrr j hj).1, trivial⟩
      have hzq : w.heap.size < w8.heap.size := by omega
      go_wp2_with fail
      go_roundw
      case rel => exact ⟨k + 1, r8, by omega, by go_num, hs, hp, hrr, hzq, hb⟩
      case measure => simp [intOf]; omega
    · obtain rfl : k = l.length := by omega
      rw [← HCOD.out] at hp
      have hlen : (codesB l).length ≤ 2000 := by rw [HCOD.out, List.length_append, rowsB_len l _ (Nat.le_refl _)]; omega
      go_wp2_with fail
      (with_reducible refine (PenBytes_calls _ r _ _ hp (by omega)).mono ?_)
      rintro e w8 ⟨v8, rfl, hrow, h9⟩
      have hz := hb.size
      have hb := hb.trans (h9.mono hb.size)
      have hrow := own_lowK hrow hz
      obtain ⟨A8, c8, b8, hv8, -⟩ := Row.sl hrow
      obtain ⟨N8, hN8⟩ : ∃ N8, N8 = (codesB l).length := ⟨_, rfl⟩
      rw [← hN8] at hv8
      clear hN8 h9
      subst hv8
      go_wp2_with fail
      go_ret
      exact ⟨_, rfl, hrow, hb⟩
end Go.Proofs.YtfckgfoimpileaaDoor
/- What instructions' bytes read as, plainly: how many, a row of twelve for each; what was written comes back. Conditions: those said. -/
namespace Go.Proofs.YtfckgfoimpileaaDoor
open Go.RowKit

theorem low_first (n k : Nat) : low n (k + 1) = UInt8.ofNat n :: low (n / 256) k := by
  simp only [low, List.range_succ_eq_map, List.map_cons, List.map_map, Nat.pow_zero, Nat.div_one]
  congr 1
  apply List.map_congr_left
  intro i _
  simp only [Function.comp, Nat.pow_succ]
  rw [Nat.mul_comm, Nat.div_div_eq_div_mul]
theorem valN_low (n k : Nat) : valN (low n k) = n % 256 ^ k := by
  induction k generalizing n with
  | zero => simp [low, valN, Nat.mod_one]
  | succ k ih =>
    rw [low_first, valN_cons, ih, Nat.pow_succ, Nat.mul_comm (256 ^ k), Nat.mod_mul]
    simp
    omega
theorem rdN_low (k n : Nat) (r : List UInt8) (bad : Bool) (hn : n < 256 ^ k) : rdN k (low n k ++ r) bad = (n, r, bad) := by
  unfold rdN
  rw [if_pos (by simp), List.take_left' (by simp), List.drop_left' (by simp), valN_low, Nat.mod_eq_of_lt hn]
theorem rdN_yes {k : Nat} {l : List UInt8} (bad : Bool) (h : k ≤ l.length) : rdN k l bad = (valN (l.take k), l.drop k, bad) := by unfold rdN; rw [if_pos h]
theorem rdN_good {k n : Nat} {l l' : List UInt8} {bad : Bool} (h : rdN k l bad = (n, l', false)) : bad = false ∧ l.length = k + l'.length := by
  unfold rdN at h
  split at h
  · rename_i hk
    injection h with h1 h
    injection h with h2 h3
    refine ⟨h3, ?_⟩
    rw [← h2, List.length_drop]
    omega
  · injection h with _ h
    injection h with _ h
    cases h
theorem rd_pos : ∀ (l : List UInt8) (i v k : Nat), 0 < i → rd i l = some (v, k) → 0 < v
  | [], _, _, _, _, h => by cases h
  | x :: l, i, v, k, hi, h => by
    rw [rd] at h
    split at h
    · split at h
      · cases h
      · rename_i h1
        injection h with h
        injection h with h _
        rw [← h]
        refine Nat.pos_of_ne_zero fun h0 => h1 (.inl ⟨hi, h0⟩)
    · split at h
      · cases h
      · obtain ⟨⟨v', k'⟩, hr, he⟩ := Option.map_eq_some_iff.1 h
        simp only [Prod.mk.injEq] at he
        have := rd_pos l (i + 1) v' k' (by omega) hr
        omega
theorem rdM_nil (bad : Bool) : rdM 96 [] bad = (0, [], true) := rfl
theorem rdM_small {x : UInt8} {l : List UInt8} (bad : Bool) (h : x.toNat ≤ 96) : rdM 96 (x :: l) bad = (x.toNat, l, bad) := by
  unfold rdM rd
  rw [if_pos (by omega), if_neg (by omega)]
  simp only [if_pos h, List.drop_succ_cons, List.drop_zero]
theorem rdM_big {x : UInt8} {l : List UInt8} (bad : Bool) (h : 96 < x.toNat) : rdM 96 (x :: l) bad = (0, [], true) := by
  unfold rdM
  cases hr : rd 0 (x :: l) with
  | none => rfl
  | some y =>
    obtain ⟨v, k⟩ := y
    have hv : ¬ v ≤ 96 := by
      rw [rd] at hr
      split at hr
      · rw [if_neg (by omega)] at hr
        injection hr with hr
        injection hr with hr _
        omega
      · rw [if_neg (by omega)] at hr
        obtain ⟨⟨v', k'⟩, hr', he⟩ := Option.map_eq_some_iff.1 hr
        simp only [Prod.mk.injEq] at he
        have := rd_pos l 1 v' k' (by omega) hr'
        omega
    simp only [if_neg hv]

/-- What is read row by row: the instructions, what is left, was it wrong. -/
structure GK where
  cs : List Cd
  l : List UInt8
  bad : Bool
def rowK (r : GK) : GK :=
  let x0 := rdN 1 r.l r.bad
  let x1 := rdN 1 x0.2.1 x0.2.2
  let x2 := rdN 1 x1.2.1 x1.2.2
  let x3 := rdN 1 x2.2.1 x2.2.2
  let x4 := rdN 4 x3.2.1 x3.2.2
  let x5 := rdN 4 x4.2.1 x4.2.2
  ⟨r.cs ++ [⟨x0.1, x1.1, x2.1, x3.1, IntKind.i32.wrap (x4.1 : Int), x5.1⟩], x5.2.1, x5.2.2⟩
def rowsK (l : List UInt8) (bad : Bool) : Nat → GK
  | 0 => ⟨[], l, bad⟩
  | k + 1 => rowK (rowsK l bad k)
theorem rowK_of {r : GK} {n0 n1 n2 n3 n4 n5 : Nat} {l0 l1 l2 l3 l4 l5 : List UInt8} {b0 b1 b2 b3 b4 b5 : Bool} (y0 : rdN 1 r.l r.bad = (n0, l0, b0)) (y1 : rdN 1 l0 b0 = (n1, l1, b1)) (y2 : rdN 1 l1 b1 = (n2, l2, b2)) (y3 : rdN 1 l2 b2 = (n3, l3, b3)) (y4 : rdN 4 l3 b3 = (n4, l4, b4)) (y5 : rdN 4 l4 b4 = (n5, l5, b5)) : rowK r = ⟨r.cs ++ [⟨n0, n1, n2, n3, IntKind.i32.wrap (n4 : Int), n5⟩], l5, b5⟩ := by
  unfold rowK
  simp only [y0, y1, y2, y3, y4, y5]
theorem rowsK_len (l : List UInt8) (bad : Bool) (k : Nat) : (rowsK l bad k).cs.length = k := by
  induction k with
  | zero => rfl
  | succ k ih => simp [rowsK, rowK, ih]
theorem rowK_good {r : GK} (h : (rowK r).bad = false) : r.bad = false ∧ r.l.length = 12 + (rowK r).l.length := by
  obtain ⟨n0, l0, b0, y0⟩ : ∃ n l b, rdN 1 r.l r.bad = (n, l, b) := ⟨_, _, _, rfl⟩
  obtain ⟨n1, l1, b1, y1⟩ : ∃ n l b, rdN 1 l0 b0 = (n, l, b) := ⟨_, _, _, rfl⟩
  obtain ⟨n2, l2, b2, y2⟩ : ∃ n l b, rdN 1 l1 b1 = (n, l, b) := ⟨_, _, _, rfl⟩
  obtain ⟨n3, l3, b3, y3⟩ : ∃ n l b, rdN 1 l2 b2 = (n, l, b) := ⟨_, _, _, rfl⟩
  obtain ⟨n4, l4, b4, y4⟩ : ∃ n l b, rdN 4 l3 b3 = (n, l, b) := ⟨_, _, _, rfl⟩
  obtain ⟨n5, l5, b5, y5⟩ : ∃ n l b, rdN 4 l4 b4 = (n, l, b) := ⟨_, _, _, rfl⟩
  rw [rowK_of y0 y1 y2 y3 y4 y5] at h ⊢
  simp only at h ⊢
  subst h
  obtain ⟨rfl, e5⟩ := rdN_good y5
  obtain ⟨rfl, e4⟩ := rdN_good y4
  obtain ⟨rfl, e3⟩ := rdN_good y3
  obtain ⟨rfl, e2⟩ := rdN_good y2
  obtain ⟨rfl, e1⟩ := rdN_good y1
  obtain ⟨e6, e0⟩ := rdN_good y0
  exact ⟨e6, by omega⟩
theorem rowsK_succ (l : List UInt8) (bad : Bool) (k : Nat) : rowsK l bad (k + 1) = rowK (rowsK l bad k) := rfl
theorem rowsK_good {l : List UInt8} {bad : Bool} (k : Nat) : (rowsK l bad k).bad = false → bad = false ∧ l.length = 12 * k + (rowsK l bad k).l.length := by
  induction k with
  | zero => exact fun h => ⟨h, by simp [rowsK]⟩
  | succ k ih =>
    rw [rowsK_succ]
    generalize rowsK l bad k = r at ih ⊢
    intro h
    obtain ⟨h1, h2⟩ := rowK_good h
    obtain ⟨h3, h4⟩ := ih h1
    generalize rowK r = s at h2 ⊢
    exact ⟨h3, by omega⟩
theorem valN_one {l : List UInt8} {i : Nat} (h : i < l.length) : valN ((l.drop i).take 1) = (l[i]).toNat := by
  rw [List.drop_eq_getElem_cons h, List.take_succ_cons, List.take_zero, valN_cons]
  simp [valN]
/-- A row of a list that is long enough. -/
theorem rowK_long {r : GK} (hb : r.bad = false) (hl : 12 ≤ r.l.length) : rowK r = ⟨r.cs ++ [⟨(r.l[0]'(by omega)).toNat, (r.l[1]'(by omega)).toNat, (r.l[2]'(by omega)).toNat, (r.l[3]'(by omega)).toNat, IntKind.i32.wrap ((valN ((r.l.drop 4).take 4) : Nat) : Int), valN ((r.l.drop 8).take 4)⟩], r.l.drop 12, false⟩ := by
  have y0 := rdN_yes (k := 1) (l := r.l) r.bad (by omega)
  have y1 := rdN_yes (k := 1) (l := r.l.drop 1) r.bad (by rw [List.length_drop]; omega)
  have y2 := rdN_yes (k := 1) (l := r.l.drop 2) r.bad (by rw [List.length_drop]; omega)
  have y3 := rdN_yes (k := 1) (l := r.l.drop 3) r.bad (by rw [List.length_drop]; omega)
  have y4 := rdN_yes (k := 4) (l := r.l.drop 4) r.bad (by rw [List.length_drop]; omega)
  have y5 := rdN_yes (k := 4) (l := r.l.drop 8) r.bad (by rw [List.length_drop]; omega)
  rw [List.drop_drop] at y1 y2 y3 y4 y5
  rw [rowK_of y0 y1 y2 y3 y4 y5, hb]
  have v0 := valN_one (l := r.l) (i := 0) (by omega)
  rw [List.drop_zero] at v0
  rw [v0, valN_one (l := r.l) (i := 1) (by omega), valN_one (l := r.l) (i := 2) (by omega), valN_one (l := r.l) (i := 3) (by omega)]
theorem rowsK_long {l : List UInt8} {n : Nat} (hl : 12 * n ≤ l.length) : ∀ k, k ≤ n → (rowsK l false k).l = l.drop (12 * k) ∧ (rowsK l false k).bad = false
  | 0, _ => ⟨rfl, rfl⟩
  | k + 1, hk => by
    obtain ⟨h1, h2⟩ := rowsK_long hl k (by omega)
    have h3 : 12 ≤ (rowsK l false k).l.length := by rw [h1, List.length_drop]; omega
    show (rowK _).l = _ ∧ (rowK _).bad = false
    rw [rowK_long h2 h3]
    refine ⟨?_, rfl⟩
    simp only [h1, List.drop_drop]
    congr 1
/-- All that is read. -/
structure PK where
  n : Nat
  g : GK
def gotK (p : List UInt8) : PK :=
  let x0 := rdM 96 p false
  ⟨x0.1, rowsK x0.2.1 x0.2.2 x0.1⟩
def PK.ok (q : PK) : Bool := decide (q.g.bad = false ∧ q.g.l = [])
theorem gotK_head {p : List UInt8} (h : 0 < p.length) (h96 : (p[0]'h).toNat ≤ 96) : gotK p = ⟨(p[0]'h).toNat, rowsK (p.drop 1) false (p[0]'h).toNat⟩ := by
  obtain ⟨x, t, rfl⟩ := List.exists_cons_of_length_pos h
  rw [List.getElem_cons_zero] at h96 ⊢
  unfold gotK
  rw [rdM_small false h96]
  rfl
theorem gotK_none {p : List UInt8} (h : p = [] ∨ ∃ x t, p = x :: t ∧ 96 < x.toNat) : (gotK p).ok = false := by
  rcases h with rfl | ⟨x, t, rfl, hx⟩
  · rfl
  · unfold gotK
    rw [rdM_big false hx]
    rfl
theorem gotK_off {p : List UInt8} (h : 0 < p.length) (h96 : (p[0]'h).toNat ≤ 96) (hn : p.length ≠ 1 + 12 * (p[0]'h).toNat) : (gotK p).ok = false := by
  unfold PK.ok
  rw [decide_eq_false]
  rintro ⟨h1, h2⟩
  rw [gotK_head h h96] at h1 h2
  simp only at h1 h2
  have e := (rowsK_good _ h1).2
  rw [h2, List.length_nil, List.length_drop] at e
  omega
theorem gotK_on {p : List UInt8} (h : 0 < p.length) (h96 : (p[0]'h).toNat ≤ 96) (hn : p.length = 1 + 12 * (p[0]'h).toNat) : (gotK p).ok = true := by
  obtain ⟨h1, h2⟩ := rowsK_long (l := p.drop 1) (n := (p[0]'h).toNat) (by rw [List.length_drop]; omega) _ (Nat.le_refl _)
  unfold PK.ok
  rw [decide_eq_true]
  rw [gotK_head h h96]
  refine ⟨h2, ?_⟩
  rw [h1]
  apply List.drop_eq_nil_of_le
  rw [List.length_drop]
  omega
theorem i32_uN {x : Int} (h0 : -2147483648 ≤ x) (h1 : x ≤ 2147483647) : IntKind.i32.wrap ((uN x : Nat) : Int) = x := by
  rw [IntKind.wrap_i32]
  unfold uN
  omega
theorem rowK_own (cs' : List Cd) (c : Cd) (r : List UInt8) (hc : c.Ok) : rowK ⟨cs', codeB c ++ r, false⟩ = ⟨cs' ++ [c], r, false⟩ := by
  have := hc.ho
  have := hc.ha
  have := hc.hb
  have := hc.hc
  have := hc.hm
  have e : codeB c ++ r = low c.op 1 ++ (low c.a 1 ++ (low c.b 1 ++ (low c.c 1 ++ (low (uN c.n) 4 ++ (low c.m 4 ++ r))))) := by simp [codeB]
  have y0 := rdN_low 1 c.op (low c.a 1 ++ (low c.b 1 ++ (low c.c 1 ++ (low (uN c.n) 4 ++ (low c.m 4 ++ r))))) false (by omega)
  have y1 := rdN_low 1 c.a (low c.b 1 ++ (low c.c 1 ++ (low (uN c.n) 4 ++ (low c.m 4 ++ r)))) false (by omega)
  have y2 := rdN_low 1 c.b (low c.c 1 ++ (low (uN c.n) 4 ++ (low c.m 4 ++ r))) false (by omega)
  have y3 := rdN_low 1 c.c (low (uN c.n) 4 ++ (low c.m 4 ++ r)) false (by omega)
  have y4 := rdN_low 4 (uN c.n) (low c.m 4 ++ r) false (uN_lt _)
  have y5 := rdN_low 4 c.m r false (by omega)
  rw [e]
  rw [rowK_of (r := ⟨cs', _, false⟩) y0 y1 y2 y3 y4 y5, i32_uN hc.n0 hc.n1]
theorem rowsK_own {cs : List Cd} (hok : okK cs) : ∀ k, k ≤ cs.length → rowsK (rowsB cs cs.length) false k = ⟨cs.take k, (cs.drop k).flatMap codeB, false⟩
  | 0, _ => by simp [rowsK, rowsB]
  | k + 1, hk => by
    have ih := rowsK_own hok k (by omega)
    show rowK _ = _
    rw [ih, List.drop_eq_getElem_cons (by omega), List.flatMap_cons, rowK_own _ _ _ (hok _ (List.getElem_mem _)), ← List.take_succ_eq_append_getElem (by omega)]
theorem num_one {n : Nat} (h : n ≤ 96) : num n = [UInt8.ofNat n] := by unfold num; rw [numF_small _ _ (by omega)]
/-- Instructions' own bytes come back. -/
theorem gotK_own {cs : List Cd} (hn : cs.length ≤ 96) (hok : okK cs) : gotK (codesB cs) = ⟨cs.length, ⟨cs, [], false⟩⟩ := by
  have e : codesB cs = UInt8.ofNat cs.length :: rowsB cs cs.length := by unfold codesB; rw [num_one hn]; rfl
  have e2 : (UInt8.ofNat cs.length).toNat = cs.length := by simp; omega
  unfold gotK
  rw [e, rdM_small false (by omega), e2]
  simp only [rowsK_own hok _ (Nat.le_refl _), List.take_length, List.drop_length, List.flatMap_nil]
end Go.Proofs.YtfckgfoimpileaaDoor
