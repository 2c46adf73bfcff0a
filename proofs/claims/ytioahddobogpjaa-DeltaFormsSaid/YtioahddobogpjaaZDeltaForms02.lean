/- Parts of one proof, in their order. -/
import Derived.Test.YtioahddobogpjaaZDeltaForms01
import Derived.Test.YtioahddobogpjaaRows
import Derived.BigRegion
import Derived.Deep.DeepCutAuto
/- The law on append at slices of bytes, in this program's numbers. Condition: the sum of the lengths fits. -/
namespace Go.Proofs.Ytioahddobogpjaa
open Go.RowKit

theorem byte_info : (Try.prog.info? 5).map (fun i => (i.zero, i.size, i.bytes)) = some (some (.int .u8 0), 1, 1) := by kernel_rfl

/-- The slice value v is the call's own (its block not below B), and holds the bytes l. -/
abbrev Row (w : World) (B : Nat) (v : Value) (l : List UInt8) : Prop := w.ownsRow B 5 1 v l.length (bv l)

theorem Row.nil_ (w : World) (B : Nat) : Row w B (.slice none 0 0) [] := World.ownsRow_nil _ _ _ _
theorem Row.cast {w : World} {B : Nat} {v : Value} {l l' : List UInt8} (h : Row w B v l) (e : l = l') : Row w B v l' := e ▸ h
theorem Row.lt {w : World} {B : Nat} {v : Value} {l : List UInt8} (h : Row w B v l) : ∀ k, v.ownBlock = some k → B ≤ k ∧ k < w.heap.size := World.ownsRow.lt h
theorem Row.mod {w w' : World} {B : Nat} {v : Value} {l : List UInt8} (h : Row w B v l) {S : Nat → Prop} (hm : Mod S w w') (hs : ∀ k, v.ownBlock = some k → ¬ S k) : Row w' B v l := by
  refine ⟨h.1, ?_⟩
  rcases h.2 with h2 | ⟨g, cap, cur, rfl, hg, hh, r⟩
  · exact .inl h2
  · exact .inr ⟨g, cap, cur, rfl, hg, by rw [hm.block g (Array.getElem?_eq_some_iff.1 hh).1 (hs g rfl)]; exact hh, r⟩
theorem Row.ext {w w' : World} {B : Nat} {v : Value} {l : List UInt8} (h : Row w B v l) (hm : Below w.heap.size w w') : Row w' B v l :=
  h.mod (Mod.of_below hm) fun k hk => by have := (h.lt k hk).2; omega
theorem Row.low {w : World} {B B' : Nat} {v : Value} {l : List UInt8} (h : Row w B v l) (hB : B' ≤ B) : Row w B' v l := by
  refine ⟨h.1, ?_⟩
  rcases h.2 with h2 | ⟨g, cap, cur, rfl, hg, r⟩
  · exact .inl h2
  · exact .inr ⟨g, cap, cur, rfl, by omega, r⟩
/-- What it reads as. -/
theorem Row.sl {w : World} {B : Nat} {v : Value} {l : List UInt8} (h : Row w B v l) : ∃ A c b, v = .slice A l.length c ∧ l.length ≤ c ∧ c ≤ maxLen ∧ (A = none → c = 0) ∧ B ≤ b ∧ Bs w b A l ∧ (∀ k, v.ownBlock = some k → k = b) := by
  rcases h.2 with ⟨rfl, hn⟩ | ⟨g, cap, cur, rfl, hb, _, hnc, hcm, _⟩
  · have hl : l = [] := List.eq_nil_of_length_eq_zero hn
    subst hl
    exact ⟨none, 0, B, rfl, Nat.le_refl _, by simp [maxLen], fun _ => rfl, Nat.le_refl _, Sl.nil_ _ _ _, by simp [Value.ownBlock]⟩
  · refine ⟨_, cap, g, rfl, hnc, hcm, by simp, hb, fun _ => ⟨0, rfl, fun j u hu => ?_⟩, by simp [Value.ownBlock]⟩
    have := h.cells (g := g) rfl j u hu
    simpa [Addr.add_lit] using this

theorem Row.blk_sl {w : World} {B n c b : Nat} {v : Value} {A : Option Addr} {l : List UInt8} (h : Row w B v l) (hv : v = .slice A n c) (hs : Bs w b A l) (hl : l ≠ []) : ∃ cur, w.heap[b]? = some (.cells cur 5 (0, 0)) := by
  obtain ⟨off, hA, _⟩ := hs (by rw [ne_eq, bv_nil_iff]; exact hl)
  rcases h.2 with ⟨_, hn⟩ | ⟨g, cap, cur, hg, _, hh, _⟩
  · exact absurd (List.eq_nil_of_length_eq_zero hn) hl
  · rw [hv] at hg
    injection hg with h1 _ _
    rw [hA] at h1
    injection h1 with h1
    injection h1 with h1 _ _
    subst h1
    exact ⟨cur, hh⟩
theorem Bs.modne {w w' : World} {b : Nat} {A : Option Addr} {l : List UInt8} (h : Bs w b A l) {S : Nat → Prop} (hm : Mod S w w') (hs : l ≠ [] → ¬ S b) : Bs w' b A l := by
  by_cases hl : l = []
  · subst hl; exact Sl.nil_ _ _ _
  · exact Sl.mod h hm (hs hl)
theorem Bs.lt {w : World} {b : Nat} {A : Option Addr} {l : List UInt8} (h : Bs w b A l) (hl : l ≠ []) : b < w.heap.size := Sl.lt h (by rw [ne_eq, bv_nil_iff]; exact hl)
/-- One of its bytes, written. -/
theorem Bs.set_ {w : World} {b off k : Nat} {l : List UInt8} {cur : Array Value} {t : TypeId} {q : UInt8} (hg : w.heap[b]? = some (.cells cur t (0, 0))) (h : Bs w b (some ⟨b, off, none⟩) l) (hk : k < l.length) :
    Bs (w.setCell ⟨b, off + k, none⟩ (.int .u8 (q.toNat : Int))) b (some ⟨b, off, none⟩) (l.set k q) ∧ (w.setCell ⟨b, off + k, none⟩ (.int .u8 (q.toNat : Int))).heap[b]? = some (.cells (cur.setIfInBounds (off + k) (.int .u8 (q.toNat : Int))) t (0, 0)) := by
  have h2 := heap_setCell_same w b (off + k) cur t (.int .u8 (q.toNat : Int)) hg
  refine ⟨fun _ => ⟨off, rfl, fun j u hu => ?_⟩, h2⟩
  rw [cell_of_row _ _ _ _ _ _ h2]
  have hj : j < l.length := by
    have := (List.getElem?_eq_some_iff.1 hu).1
    simpa using this
  obtain ⟨off', hA, hc⟩ := Bs.at_ h hj
  injection hA with hA
  injection hA with _ hA _
  subst hA
  have h3 := hc j hj
  rw [cell_of_row _ _ _ _ _ _ hg] at h3
  have hsz : off + j < cur.size := (Array.getElem?_eq_some_iff.1 h3).1
  have hsz2 : off + k < cur.size := by
    have h4 := hc k hk
    rw [cell_of_row _ _ _ _ _ _ hg] at h4
    exact (Array.getElem?_eq_some_iff.1 h4).1
  have hu2 : u = .int .u8 (((l.set k q)[j]'(by simpa using hj)).toNat : Int) := by
    have h5 : (bv (l.set k q))[j]? = some ((bv (l.set k q))[j]'(by simpa using hj)) := List.getElem?_eq_getElem _
    rw [h5, bv_get] at hu
    injection hu with hu
    exact hu.symm
  rw [hu2, Array.getElem?_setIfInBounds]
  by_cases e : j = k
  · subst e
    simp [hsz2]
  · rw [if_neg (by omega), h3, List.getElem_set_ne (by omega)]

section
variable (w : World)
theorem wpList_app {ops : Array Oper} {rest : List Oper} {o : Oper} {a : Act} {Q : Exit → Act → World → Prop} (hgd : o.guard = none) (s x : Operand)
    (ho : o.op = .call { callee := .builtin .append, args := #[s, x], argTypes := #[36, 36] })
    (B : Nat) (v : Value) (l : List UInt8) (hs : a.eval s = v) (hown : Row w B v l)
    (b : Nat) (A : Option Addr) (m c : Nat) (news : List UInt8) (hx : a.eval x = .slice A m c) (hr : Bs w b A news) (hm : news.length = m)
    (hlen : l.length + m ≤ 140737488355328) (hbase : B ≤ w.heap.size)
    (h : ∀ v' w', Row w' B v' (l ++ news) → Mod (fun i => v.ownBlock = some i) w w' → (v'.ownBlock = v.ownBlock ∨ v'.ownBlock = some w.heap.size) → wpList Try.prog ops Q rest (a.put o.dst v') w') : wpList Try.prog ops Q (o :: rest) a w := by
  obtain ⟨i0, hi0, hz0, hz1, hz2⟩ := info_parts byte_info
  refine wpList_append_sl (P := Try.prog) w hgd s x _ ho B 5 i0 _ 1 1 Try.underlying36 hi0 hz0 hz1 hz2 rfl (by omega) v l.length (bv l) hs hown b A m c (bv news) hx hr (by simp [hm]) (Sl.none_len hr (by simp [hm])) (bv_one _)
    (by simp only [maxLen]; omega) (by omega) hbase ?_
  intro v' w' h1 h2 h3
  exact h v' w' (by unfold Row; rw [List.length_append, hm, bv_append]; exact h1) (Mod.of_grown h2) h3

/-- append(out, x) of one byte, which lies in a new block of its own. -/
theorem wpList_app1 {u : Value} {ops : Array Oper} {rest : List Oper} {o : Oper} {a : Act} {Q : Exit → Act → World → Prop} (hgd : o.guard = none) (s x : Operand)
    (ho : o.op = .call { callee := .builtin .append, args := #[s, x], argTypes := #[36, 36] })
    (B : Nat) (v : Value) (l : List UInt8) (hs : a.eval s = v) (hown : Row w B v l)
    (q : UInt8) (hu : u = .int .u8 (q.toNat : Int)) (hx : a.eval x = .slice (some ⟨w.heap.size, 0, none⟩) 1 1)
    (hlen : l.length + 1 ≤ 140737488355328) (hbase : B ≤ w.heap.size)
    (h : ∀ v' w', Row w' B v' (l ++ [q]) → Mod (fun i => v.ownBlock = some i) w w' → (v'.ownBlock = v.ownBlock ∨ ∃ k, v'.ownBlock = some k ∧ w.heap.size ≤ k) → wpList Try.prog ops Q rest (a.put o.dst v') w') : wpList Try.prog ops Q (o :: rest) a (w.alloc (.cells #[u] 5)) := by
  subst hu
  refine wpList_app (w.alloc (.cells #[.int .u8 (q.toNat : Int)] 5)) hgd s x ho B v l hs (World.ownsRow.alloc hown _) w.heap.size _ 1 1 [q] hx (Sl.one_new w _ _) rfl hlen (by simp; omega) ?_
  intro v' w' h1 h2 h3
  refine h v' w' h1 ((Mod.alloc (fun _ => False) w _).trans h2 (fun i _ h => h.elim) (fun i _ h => h)) (h3.imp id fun h => ⟨_, h, by simp⟩)
end
end Go.Proofs.Ytioahddobogpjaa
/- The reference's Join: lists of bytes behind one another, in new memory; nothing that was there turns. Condition: the sum of the lengths fits. -/
namespace Go.Proofs.Ytioahddobogpjaa
open Go.RowKit

/-- Values that are slices of bytes, and what they read as. -/
def Bss (w : World) (vs : List Value) (ls : List (List UInt8)) : Prop :=
  vs.length = ls.length ∧ ∀ (i : Nat) (l : List UInt8), ls[i]? = some l → ∃ A c b, vs[i]? = some (Value.slice A l.length c) ∧ Bs w b A l

theorem Bss.ext {w w' : World} {vs : List Value} {ls : List (List UInt8)} (h : Bss w vs ls) (hm : Below w.heap.size w w') : Bss w' vs ls :=
  ⟨h.1, fun i l hl => by
    obtain ⟨A, c, b, h1, h2⟩ := h.2 i l hl
    exact ⟨A, c, b, h1, Sl.ext h2 hm⟩⟩
theorem Bss.nil_ (w : World) : Bss w [] [] := ⟨rfl, fun i l h => by simp at h⟩
theorem Bss.cons {w : World} {vs : List Value} {ls : List (List UInt8)} {A : Option Addr} {l : List UInt8} {n c b : Nat} (h : Bs w b A l) (hn : l.length = n) (r : Bss w vs ls) : Bss w (Value.slice A n c :: vs) (l :: ls) :=
  ⟨by simp [r.1], fun i x hx => by
    cases i with
    | zero =>
      simp at hx
      subst hx
      exact ⟨A, c, b, by simp [hn], h⟩
    | succ i =>
      obtain ⟨A', c', b', h1, h2⟩ := r.2 i x (by simpa using hx)
      exact ⟨A', c', b', by simpa using h1, h2⟩⟩

theorem flatten_take_succ (ls : List (List UInt8)) (k : Nat) (h : k < ls.length) : (ls.take (k + 1)).flatten = (ls.take k).flatten ++ ls[k] := by
  rw [List.take_succ_eq_append_getElem h]
  simp only [List.flatten_append, List.flatten_cons, List.flatten_nil, List.append_nil]
theorem flatten_take_le (ls : List (List UInt8)) (k : Nat) : (ls.take k).flatten.length ≤ ls.flatten.length := by
  have : (ls.take k).flatten ++ (ls.drop k).flatten = ls.flatten := by rw [← List.flatten_append, List.take_append_drop]
  rw [← this]
  simp

set_option maxHeartbeats 400000 in
theorem Join_calls (A : Option Addr) (vs : List Value) (ls : List (List UInt8)) (n c b : Nat) (w : World) (hs : Sl w b A vs) (hv : Bss w vs ls) (hn : ls.length = n) (h1 : n ≤ maxLen) (h2 : ls.flatten.length ≤ 140737488355328) :
    Calls Try.prog 25 #[.slice A n c] w fun e w' => ∃ v, e = .returned v ∧ Row w' w.heap.size v ls.flatten ∧ Below w.heap.size w w' := by
  unfold maxLen at h1
  have HN := Lib.hid hn
  have HL := Lib.hid h2
  clear hn h2
  go_enter Try.func25, Try.ntmps25
  go_wp2
  go_loopw [3, 8] (fun v i wr => ∃ k : Nat, k ≤ n ∧ i = .int .i64 k ∧ Row wr w.heap.size v (ls.take k).flatten ∧ Below w.heap.size w wr) (fun _ i _ => n - (intOf i).toNat)
  case atStart => exact ⟨0, Nat.zero_le _, rfl, by simpa using Row.nil_ _ _, Below.refl _ _⟩
  case round =>
    obtain ⟨k, hk, rfl, hown, hb⟩ := hrel
    by_cases hlt : k < n
    · have hkl : k < ls.length := by rw [HN.out]; exact hlt
      obtain ⟨A1, c1, b1, hv1, hs1⟩ := (hv.ext hb).2 k ls[k] (List.getElem?_eq_getElem hkl)
      obtain ⟨oa, rfl, hca⟩ := (Sl.ext hs hb) (by rintro rfl; simp at hv1)
      have ca := hca k _ hv1
      have hbs : w.heap.size ≤ wr.heap.size := hb.size
      obtain ⟨q, hq⟩ : ∃ q, q = ls[k] := ⟨_, rfl⟩
      rw [← hq] at ca hs1
      have e1 := Lib.hid (flatten_take_succ ls k hkl)
      have hle : (ls.take k).flatten.length + q.length ≤ 140737488355328 := by
        have h3 := flatten_take_le ls (k + 1)
        have h4 := HL.out
        rw [e1.out, ← hq] at h3
        simp only [List.length_append] at h3
        omega
      have HQ := Lib.hid hq
      clear hca hv1 hq
      go_wp2_with (at_builtin; refine wpList_app wr rfl (.tmp 12) (.tmp 13) rfl w.heap.size _ _ rfl hown b1 A1 q.length c1 q rfl hs1 rfl hle hbs ?_; intro v' w1 hown' hmod _)
      go_roundw
      case rel => exact ⟨k + 1, by omega, by go_num, hown'.cast (by rw [e1.out, HQ.out]), hb.trans (hmod.below hbs (fun i hi hv => by have := (hown.lt i hv).1; omega))⟩
      case measure => simp [intOf]; omega
    · go_wp2
      go_ret
      refine ⟨_, rfl, hown.cast ?_, hb⟩
      have := HN.out
      rw [List.take_of_length_le (by omega)]
end Go.Proofs.Ytioahddobogpjaa
/- The reference's Low and Value: a number's bytes, the lowest first, and back. Conditions: the numbers fit 64 bits. -/
namespace Go.Proofs.Ytioahddobogpjaa
open Go.RowKit

def low (n k : Nat) : List UInt8 := (List.range k).map fun i => UInt8.ofNat (n / 256 ^ i)
theorem low_succ (n k : Nat) : low n (k + 1) = low n k ++ [UInt8.ofNat (n / 256 ^ k)] := by simp [low, List.range_succ]
@[simp] theorem low_length (n k : Nat) : (low n k).length = k := by simp [low]

set_option maxHeartbeats 400000 in
theorem Low_calls (n : Nat) (s : Int) (w : World) (hn : n ≤ 18446744073709551615) (h0 : 0 ≤ s) (h1 : s ≤ 1000) :
    Calls Try.prog 50 #[.int .u64 n, .int .i64 s] w fun e w' => ∃ v, e = .returned v ∧ Row w' w.heap.size v (low n s.toNat) ∧ Below w.heap.size w w' := by
  obtain ⟨t, rfl⟩ := Int.eq_ofNat_of_zero_le h0
  rw [Int.toNat_natCast]
  go_enter Try.func50, Try.ntmps50
  go_wp2
  go_loopw [0, 5, 6] (fun x v i wr => ∃ k m : Nat, k ≤ t ∧ i = .int .i64 k ∧ x = .int .u64 m ∧ Hid (m = n / 256 ^ k) ∧ m ≤ n ∧ Row wr w.heap.size v (low n k) ∧ Below w.heap.size w wr) (fun _ _ i _ => t - (intOf i).toNat)
  case atStart => exact ⟨0, n, Nat.zero_le _, rfl, rfl, Lib.hid (by simp), Nat.le_refl _, by simpa [low] using Row.nil_ _ _, Below.refl _ _⟩
  case round =>
    obtain ⟨k, m, hk, rfl, rfl, hm, hmn, hown, hb⟩ := hrel
    by_cases hlt : k < t
    · have hbs : w.heap.size ≤ wr.heap.size := hb.size
      have hle : (low n k).length + 1 ≤ 140737488355328 := by simp; omega
      have e2 := Lib.hid (u8_ofNat m)
      go_wp2_with (at_builtin; refine wpList_app1 wr rfl (.tmp 12) (.tmp 16) rfl w.heap.size _ _ rfl hown (UInt8.ofNat m) (by rw [e2.out]) rfl hle hbs ?_; intro v' w1 hown' hmod _)
      go_roundw
      case rel =>
        refine ⟨k + 1, m / 256, by omega, by go_num, by go_num, Lib.hid ?_, by omega, hown'.cast ?_, hb.trans (hmod.below hbs (fun i hi hv => by have := (hown.lt i hv).1; omega))⟩
        · rw [hm.out, Nat.div_div_eq_div_mul, Nat.pow_succ]
        · rw [low_succ, hm.out]
      case measure => simp [intOf]; omega
    · go_wp2
      go_ret
      refine ⟨_, rfl, hown.cast ?_, hb⟩
      rw [show k = t by omega]

def valN (l : List UInt8) : Nat := l.foldr (fun x acc => 256 * acc + x.toNat) 0
theorem valN_cons (x : UInt8) (l : List UInt8) : valN (x :: l) = 256 * valN l + x.toNat := rfl
theorem valN_lt (l : List UInt8) : valN l < 256 ^ l.length := by
  induction l with
  | nil => simp [valN]
  | cons x l ih =>
    rw [valN_cons, List.length_cons, Nat.pow_succ]
    have := x.toNat_lt
    omega
theorem valN_drop (l : List UInt8) (k : Nat) (h : k < l.length) : valN (l.drop k) = 256 * valN (l.drop (k + 1)) + l[k].toNat := by
  rw [List.drop_eq_getElem_cons h, valN_cons]
end Go.Proofs.Ytioahddobogpjaa
/- Sums, in plain numbers: a sum's step is linear, whole bytes go in at once, and what is not nought and of at most 32 bits leaves a trace. No condition beyond the widths said. -/
namespace Go.Proofs.Ytioahddobogpjaa

/-- One bit's step of a sum. -/
def bitStep (s : Nat) : Nat := s / 2 ^^^ (if s % 2 = 1 then 2197175160 else 0)
def crcBits : Nat → Nat → Nat
  | 0, s => s
  | k + 1, s => crcBits k (bitStep s)
theorem crcBits_add (j k s : Nat) : crcBits (j + k) s = crcBits k (crcBits j s) := by
  induction j generalizing s with
  | zero => simp [crcBits]
  | succ j ih => rw [Nat.succ_add]; exact ih _
theorem crcBits_succ (k s : Nat) : crcBits (k + 1) s = bitStep (crcBits k s) := by rw [crcBits_add k 1]; rfl
theorem xor_odd (a b : Nat) : (a ^^^ b) % 2 = (a + b) % 2 := by
  have h := Nat.xor_mod_two_pow (a := a) (b := b) (n := 1)
  rw [Nat.pow_one] at h
  rw [h]
  have ha : a % 2 = 0 ∨ a % 2 = 1 := by omega
  have hb : b % 2 = 0 ∨ b % 2 = 1 := by omega
  rcases ha with ha | ha <;> rcases hb with hb | hb <;> rw [ha, hb] <;> simp <;> omega
theorem bitStep_xor (a b : Nat) : bitStep (a ^^^ b) = bitStep a ^^^ bitStep b := by
  unfold bitStep
  rw [Nat.xor_div_two, xor_odd]
  have ha : a % 2 = 0 ∨ a % 2 = 1 := by omega
  have hb : b % 2 = 0 ∨ b % 2 = 1 := by omega
  have e : ∀ x y z : Nat, x ^^^ z ^^^ (y ^^^ z) = x ^^^ y := fun x y z => by
    rw [Nat.xor_assoc, ← Nat.xor_assoc z y z, Nat.xor_comm z y, Nat.xor_assoc y z z, Nat.xor_self, Nat.xor_zero]
  rcases ha with ha | ha <;> rcases hb with hb | hb
  · rw [if_neg (by omega), if_neg (by omega), if_neg (by omega)]; simp
  · rw [if_pos (by omega), if_neg (by omega), if_pos hb, Nat.xor_zero, Nat.xor_assoc]
  · rw [if_pos (by omega), if_pos ha, if_neg (by omega), Nat.xor_zero, Nat.xor_assoc, Nat.xor_assoc, Nat.xor_comm (b / 2)]
  · rw [if_neg (by omega), if_pos ha, if_pos hb, Nat.xor_zero, e]
theorem crcBits_xor (k a b : Nat) : crcBits k (a ^^^ b) = crcBits k a ^^^ crcBits k b := by
  induction k generalizing a b with
  | zero => rfl
  | succ k ih => show crcBits k (bitStep (a ^^^ b)) = crcBits k (bitStep a) ^^^ crcBits k (bitStep b); rw [bitStep_xor]; exact ih _ _
theorem crcBits_shift (k m : Nat) : crcBits k (2 ^ k * m) = m := by
  induction k with
  | zero => simp [crcBits]
  | succ k ih =>
    show crcBits k (bitStep (2 ^ (k + 1) * m)) = m
    have h : 2 ^ (k + 1) * m = 2 * (2 ^ k * m) := by rw [Nat.pow_succ, Nat.mul_comm (2 ^ k) 2, Nat.mul_assoc]
    have h2 : bitStep (2 ^ (k + 1) * m) = 2 ^ k * m := by
      unfold bitStep
      rw [h, if_neg (by omega), Nat.xor_zero, Nat.mul_div_cancel_left _ (by omega)]
    rw [h2, ih]
theorem bitStep_lt {s : Nat} (h : s < 2 ^ 32) : bitStep s < 2 ^ 32 := by
  unfold bitStep
  refine Nat.xor_lt_two_pow (by omega) ?_
  split <;> omega
theorem crcBits_lt {s : Nat} (k : Nat) (h : s < 2 ^ 32) : crcBits k s < 2 ^ 32 := by
  induction k generalizing s with
  | zero => exact h
  | succ k ih => exact ih (bitStep_lt h)
theorem bitStep_nought {s : Nat} (h : s < 2 ^ 32) (h0 : bitStep s = 0) : s = 0 := by
  unfold bitStep at h0
  by_cases ho : s % 2 = 1
  · exfalso
    rw [if_pos ho] at h0
    have h1 : (s / 2 ^^^ 2197175160).testBit 31 = true := by
      rw [Nat.testBit_xor, Nat.testBit_lt_two_pow (show s / 2 < 2 ^ 31 by omega)]
      decide
    rw [h0] at h1
    simp at h1
  · rw [if_neg ho, Nat.xor_zero] at h0
    omega
theorem crcBits_nought {s : Nat} (k : Nat) (h : s < 2 ^ 32) (h0 : crcBits k s = 0) : s = 0 := by
  induction k generalizing s with
  | zero => exact h0
  | succ k ih => exact bitStep_nought h (ih (bitStep_lt h) h0)
/-- What is not nought and of at most 32 bits leaves a trace. -/
theorem crcBits_burst {n j m : Nat} (hj : j ≤ n) (h : m < 2 ^ 32) (h0 : crcBits n (2 ^ j * m) = 0) : m = 0 := by
  obtain ⟨i, rfl⟩ : ∃ i, n = j + i := ⟨n - j, by omega⟩
  rw [crcBits_add, crcBits_shift] at h0
  exact crcBits_nought i h h0

/-- A sum's step by one byte, and by a text. -/
def step8 (s : Nat) (b : Nat) : Nat := crcBits 8 (s ^^^ b)
def crc (s : Nat) (l : List UInt8) : Nat := l.foldl (fun s b => step8 s b.toNat) s
theorem crc_append (s : Nat) (l m : List UInt8) : crc s (l ++ m) = crc (crc s l) m := by simp [crc, List.foldl_append]
theorem crc_cons (s : Nat) (b : UInt8) (l : List UInt8) : crc s (b :: l) = crc (step8 s b.toNat) l := rfl
theorem low_byte (a b : Nat) (h : b < 256) : 256 * a + b = (256 * a) ^^^ b := by
  apply Nat.eq_of_testBit_eq
  intro i
  have h1 := Nat.testBit_two_pow_mul_add a (b := b) (i := 8) h i
  have h2 := Nat.testBit_two_pow_mul (i := 8) (a := a) (j := i)
  rw [Nat.testBit_xor]
  rw [show (2 : Nat) ^ 8 = 256 by rfl] at h1 h2
  rw [h1, h2]
  by_cases hi : i < 8
  · rw [if_pos hi]; simp [show ¬ i ≥ 8 by omega]
  · rw [if_neg hi]
    have h3 : b.testBit i = false := Nat.testBit_lt_two_pow (Nat.lt_of_lt_of_le h (by have := Nat.pow_le_pow_right (n := 2) (by omega) (show 8 ≤ i by omega); simpa using this))
    simp [show i ≥ 8 by omega, h3]
/-- A text's sum is that of its number, as many bits on. -/
theorem crc_val (s : Nat) (l : List UInt8) : crc s l = crcBits (8 * l.length) (s ^^^ valN l) := by
  induction l generalizing s with
  | nil => simp [crc, valN, crcBits]
  | cons b l ih =>
    rw [crc_cons, ih, valN_cons, List.length_cons]
    rw [show 8 * (l.length + 1) = 8 + 8 * l.length by omega, crcBits_add]
    congr 1
    rw [low_byte _ _ (by have := b.toNat_lt; omega), step8, Nat.xor_comm (256 * valN l), ← Nat.xor_assoc, crcBits_xor 8 (s ^^^ b.toNat)]
    congr 1
    exact (crcBits_shift 8 (valN l)).symm
theorem step8_lt {s b : Nat} (h : s < 2 ^ 32) (hb : b < 256) : step8 s b < 2 ^ 32 := crcBits_lt 8 (Nat.xor_lt_two_pow h (by omega))
theorem crc_lt {s : Nat} (l : List UInt8) (h : s < 2 ^ 32) : crc s l < 2 ^ 32 := by
  induction l generalizing s with
  | nil => exact h
  | cons b l ih => exact ih (step8_lt h (by have := b.toNat_lt; omega))
/-- The step by a table. -/
theorem step8_table (s b : Nat) : step8 s b = s / 256 ^^^ step8 0 (s % 256 ^^^ b) := by
  have h1 : s = 256 * (s / 256) ^^^ s % 256 := by rw [← low_byte _ _ (by omega)]; omega
  unfold step8
  conv => lhs; rw [h1]
  rw [Nat.xor_assoc, crcBits_xor, Nat.zero_xor]
  congr 1
  exact crcBits_shift 8 _
theorem low_first (n k : Nat) : low n (k + 1) = UInt8.ofNat n :: low (n / 256) k := by
  simp only [low, List.range_succ_eq_map, List.map_cons, List.map_map, Nat.pow_zero, Nat.div_one]
  congr 1
  apply List.map_congr_left
  intro i _
  simp only [Function.comp, Nat.pow_succ]
  rw [Nat.mul_comm, Nat.div_div_eq_div_mul]
theorem valN_low (n k : Nat) : valN (low n k) = n % 256 ^ k := by
  induction k generalizing n with
  | zero => simp [low, valN, Nat.mod_one]
  | succ k ih =>
    rw [low_first, valN_cons, ih, Nat.pow_succ, Nat.mul_comm (256 ^ k), Nat.mod_mul]
    simp
    omega
/-- A number of four bytes, given in as a text, is given in at once. -/
theorem crc_low {s v : Nat} (hv : v < 2 ^ 32) : crc s (low v 4) = crcBits 32 (s ^^^ v) := by
  rw [crc_val, low_length, valN_low, Nat.mod_eq_of_lt (by simpa using hv)]
/-- Two texts of one length that differ by at most 32 bits in a row, from the bit j on, have unlike sums. -/
theorem crc_burst {s : Nat} {l m : List UInt8} {j d : Nat} (hl : l.length = m.length) (hj : j ≤ 8 * l.length) (hd : d < 2 ^ 32) (hx : valN l ^^^ valN m = 2 ^ j * d) (he : crc s l = crc s m) : d = 0 := by
  rw [crc_val, crc_val, ← hl, crcBits_xor, crcBits_xor _ _ (valN m)] at he
  refine crcBits_burst hj hd ?_
  rw [← hx, crcBits_xor]
  have h2 := congrArg (crcBits (8 * l.length) s ^^^ ·) he
  simp only [← Nat.xor_assoc, Nat.xor_self, Nat.zero_xor] at h2
  rw [h2, Nat.xor_self]
theorem xor_nought {a b : Nat} (h : a ^^^ b = 0) : a = b := by
  have h2 : a ^^^ b ^^^ b = 0 ^^^ b := by rw [h]
  rwa [Nat.xor_assoc, Nat.xor_self, Nat.xor_zero, Nat.zero_xor] at h2
theorem flip_xor {x : Nat} (h : x < 2 ^ 32) : 4294967295 - x = 4294967295 ^^^ x := by
  apply Nat.eq_of_testBit_eq
  intro i
  have h1 := Nat.testBit_two_pow_sub_succ h i
  have h2 : (4294967295 : Nat).testBit i = decide (i < 32) := Nat.testBit_two_pow_sub_one 32 i
  rw [Nat.testBit_xor, h2, show 4294967295 - x = 2 ^ 32 - (x + 1) by omega, h1]
  by_cases hi : i < 32
  · simp [hi]
  · have h3 : x.testBit i = false := Nat.testBit_lt_two_pow (Nat.lt_of_lt_of_le h (Nat.pow_le_pow_right (by omega) (by omega)))
    simp [hi, h3]
/-- A text's sum. -/
def sumN (l : List UInt8) : Nat := 4294967295 - crc 4294967295 l
theorem sumN_lt (l : List UInt8) : sumN l < 2 ^ 32 := by unfold sumN; omega
theorem sumN_inj {l m : List UInt8} : sumN l = sumN m ↔ crc 4294967295 l = crc 4294967295 m := by
  have h1 := crc_lt (s := 4294967295) l (by omega)
  have h2 := crc_lt (s := 4294967295) m (by omega)
  unfold sumN
  omega
/-- What ends in its sum: just what leaves the one rest. -/
theorem opens_iff {p t : List UInt8} (ht : t.length = 4) : valN t = sumN p ↔ crc 4294967295 (p ++ t) = crcBits 32 4294967295 := by
  have hc := crc_lt (s := 4294967295) p (by omega)
  have hv : valN t < 2 ^ 32 := by have := valN_lt t; rw [ht] at this; simpa using this
  rw [crc_append, crc_val _ t, ht]
  unfold sumN
  rw [flip_xor hc]
  obtain ⟨c, hcc⟩ : ∃ c, c = crc 4294967295 p := ⟨_, rfl⟩
  rw [← hcc] at hc ⊢
  constructor
  · intro h
    rw [h, Nat.xor_comm 4294967295 c, ← Nat.xor_assoc, Nat.xor_self, Nat.zero_xor]
  · intro h
    have h1 : crcBits 32 (c ^^^ valN t ^^^ 4294967295) = 0 := by rw [crcBits_xor, h, Nat.xor_self]
    have h2 := crcBits_nought 32 (Nat.xor_lt_two_pow (Nat.xor_lt_two_pow hc hv) (by omega)) h1
    have h3 := xor_nought h2
    rw [← h3, Nat.xor_comm c, Nat.xor_assoc, Nat.xor_self, Nat.xor_zero]
/-- What is sealed, with at most 32 bits in a row turned, opens just if none was. -/
theorem opens_burst {q m : List UInt8} {j d : Nat} (hq : crc 4294967295 q = crcBits 32 4294967295) (hl : q.length = m.length) (hj : j ≤ 8 * q.length) (hd : d < 2 ^ 32) (hx : valN q ^^^ valN m = 2 ^ j * d) : crc 4294967295 m = crcBits 32 4294967295 ↔ d = 0 := by
  constructor
  · intro h
    exact crc_burst hl hj hd hx (hq.trans h.symm)
  · intro h
    subst h
    have h1 := xor_nought (hx.trans (Nat.mul_zero _))
    rw [← hq, crc_val, crc_val, hl, h1]
end Go.Proofs.Ytioahddobogpjaa
/- Step: a sum behind one more byte is the plain step. Condition: the sum fits 32 bits. -/
namespace Go.Proofs.Ytioahddobogpjaa
open Go.RowKit

theorem bitStep_go (m : Nat) (h : m < 2 ^ 32) : bits .xor .u32 ((m : Int) / 2) (bits .and .u32 (m : Int) 1 * 2197175160 % 4294967296) = ((bitStep m : Nat) : Int) := by
  have h1 : bits .and .u32 (m : Int) 1 = ((m % 2 : Nat) : Int) := by
    rw [show (1 : Int) = ((1 : Nat) : Int) from rfl, u32_and_nat m 1 (by omega) (by omega), Nat.and_one_is_mod]
  have h2 : ((m % 2 : Nat) : Int) * 2197175160 % 4294967296 = ((if m % 2 = 1 then 2197175160 else 0 : Nat) : Int) := by
    split <;> omega
  rw [h1, h2, show ((m : Int) / 2) = ((m / 2 : Nat) : Int) by omega, u32_xor_nat _ _ (by omega) (by split <;> omega)]
  rfl
set_option maxHeartbeats 1000000 in
set_option maxRecDepth 20000 in
theorem Step_calls (s : Nat) (b : Nat) (w : World) (hs : s < 2 ^ 32) (hb : b < 256) :
    Calls Try.prog 67 #[.int .u32 s, .int .u8 b] w fun e w' => e = .returned (.int .u32 (step8 s b : Nat)) ∧ w = w' := by
  have e0 : bits .xor .u32 (s : Int) (b : Int) = ((s ^^^ b : Nat) : Int) := u32_xor_nat s b (by omega) (by omega)
  have l0 : s ^^^ b < 2 ^ 32 := Nat.xor_lt_two_pow hs (by omega)
  obtain ⟨x, hx⟩ : ∃ x, x = s ^^^ b := ⟨_, rfl⟩
  have HS := Lib.hid (show step8 s b = crcBits 8 x by rw [hx]; rfl)
  rw [← hx] at e0 l0
  clear hx hs
  go_enter Try.func67, Try.ntmps67
  go_wp2_with fail
  go_loop [0, 10] (fun v i => ∃ k m : Nat, k ≤ 8 ∧ i = .int .i64 k ∧ v = .int .u32 m ∧ Hid (m < 2 ^ 32) ∧ Hid (m = crcBits k x)) (fun _ i => 8 - (intOf i).toNat)
  case atStart => exact ⟨0, x, by omega, rfl, rfl, Lib.hid l0, Lib.hid rfl⟩
  case round =>
    obtain ⟨k, m, hk, rfl, rfl, hm, hv⟩ := hrel
    by_cases hlt : k < 8
    · have hb := bitStep_go m hm.out
      go_wp2_with fail
      go_round
      case rel => exact ⟨k + 1, bitStep m, by omega, by go_num, rfl, Lib.hid (bitStep_lt hm.out), Lib.hid (by rw [crcBits_succ, hv.out])⟩
      case measure => simp [intOf]; omega
    · have hk8 : k = 8 := by omega
      subst hk8
      go_wp2_with fail
      go_ret
      exact ⟨by rw [HS.out, hv.out]; rfl, rfl⟩
end Go.Proofs.Ytioahddobogpjaa
/- The reference's Sum, bit by bit, is the plain sum. Condition: the text is the slice's. -/
namespace Go.Proofs.Ytioahddobogpjaa
open Go.RowKit

theorem bitStep_ref (r c : Nat) : bitStep (r ^^^ c) = (r / 2 ^^^ (if (r % 2 + c) % 2 = 1 then 2197175160 else 0)) ^^^ c / 2 := by
  unfold bitStep
  rw [Nat.xor_div_two, xor_odd, show (r + c) % 2 = (r % 2 + c) % 2 by omega, Nat.xor_assoc, Nat.xor_comm (c / 2), Nat.xor_assoc]
theorem ref_next {y r x j : Nat} (h : crcBits j y = r ^^^ x / 2 ^ j) : crcBits (j + 1) y = (r / 2 ^^^ (if (r % 2 + x / 2 ^ j) % 2 = 1 then 2197175160 else 0)) ^^^ x / 2 ^ (j + 1) := by
  rw [crcBits_succ, h, bitStep_ref, Nat.div_div_eq_div_mul, Nat.pow_succ]
theorem crc_take {s : Nat} {l : List UInt8} {k : Nat} (h : k < l.length) : crc s (l.take (k + 1)) = crcBits 8 (crc s (l.take k) ^^^ l[k].toNat) := by
  rw [List.take_succ_eq_append_getElem h, crc_append]; rfl
set_option maxHeartbeats 1000000 in
set_option maxRecDepth 20000 in
theorem RefSum_calls (A : Option Addr) (l : List UInt8) (n c b : Nat) (w : World) (hs : Bs w b A l) (hl : l.length = n) (hm : n ≤ maxLen) :
    Calls Try.prog 60 #[.slice A n c] w fun e w' => e = .returned (.int .u32 (sumN l : Nat)) ∧ w = w' := by
  unfold maxLen at hm
  have HN := Lib.hid hl
  clear hl
  go_enter Try.func60, Try.ntmps60
  go_wp2_with fail
  go_loop [3, 10] (fun v i => ∃ k m : Nat, k ≤ n ∧ i = .int .i64 k ∧ v = .int .u64 m ∧ Hid (m < 2 ^ 32) ∧ Hid (m = crc 4294967295 (l.take k))) (fun _ i => n - (intOf i).toNat)
  case atStart => exact ⟨0, 4294967295, by omega, rfl, rfl, Lib.hid (by omega), Lib.hid rfl⟩
  case round =>
    obtain ⟨k, m, hk, rfl, rfl, hm32, hv⟩ := hrel
    by_cases hlt : k < n
    · obtain ⟨oa, rfl, hca⟩ := hs.at_ (k := k) (by rw [HN.out]; exact hlt)
      have ca := hca k (by rw [HN.out]; exact hlt)
      have kl : k < l.length := by rw [HN.out]; exact hlt
      have HT := Lib.hid (crc_take (s := 4294967295) kl)
      obtain ⟨x, hx⟩ : ∃ x : Nat, x = l[k].toNat := ⟨_, rfl⟩
      have x8 : x < 256 := by have := l[k].toNat_lt; omega
      rw [← hx] at ca HT

      clear hca hx
      go_wp2_with fail
      go_loop [3, 6] (fun v i => ∃ j r : Nat, j ≤ 8 ∧ i = .int .i64 j ∧ v = .int .u64 r ∧ Hid (r < 2 ^ 32) ∧ Hid (crcBits j (m ^^^ x) = r ^^^ x / 2 ^ j)) (fun _ i => 8 - (intOf i).toNat)
      case atStart => exact ⟨0, m, by omega, rfl, rfl, hm32, Lib.hid (by simp [crcBits])⟩
      case round =>
        obtain ⟨j, r, hj, rfl, rfl, hr32, hr⟩ := hrel
        by_cases hlt2 : j < 8
        · have hnx := Lib.hid (ref_next hr.out)
          obtain ⟨q, hq⟩ : ∃ q, q = x / 2 ^ j := ⟨_, rfl⟩
          have hqi : (x : Int) / 2 ^ j = (q : Int) := by rw [hq]; simp
          have q8 : q < 256 := by rw [hq]; exact Nat.lt_of_le_of_lt (Nat.div_le_self _ _) x8
          rw [← hq] at hnx
          have hrr := hr32.out
          have hr2 : r / 2 < 2 ^ 32 := by omega
          have hxo : bits .xor .u64 ((r : Int) / 2) 2197175160 = ((r / 2 ^^^ 2197175160 : Nat) : Int) := by
            rw [show ((r : Int) / 2) = ((r / 2 : Nat) : Int) by omega, show (2197175160 : Int) = ((2197175160 : Nat) : Int) from rfl, u64_xor_nat _ _ (by omega) (by omega)]
          clear hq
          by_cases ho : (r % 2 + q) % 2 = 1
          · have hb1 : (((r : Int) % 2 + (q : Int)) % 2 == 1) = true := by simp only [beq_iff_eq]; omega
            have hnx' := Lib.hid (hnx.out.trans (by rw [if_pos ho]))
            go_wp2_with fail
            go_round
            case rel => exact ⟨j + 1, r / 2 ^^^ 2197175160, by omega, by go_num, rfl, Lib.hid (Nat.xor_lt_two_pow hr2 (by omega)), hnx'⟩
            case measure => simp [intOf]; omega
          · have hb1 : (((r : Int) % 2 + (q : Int)) % 2 == 1) = false := by simp only [beq_eq_false_iff_ne, ne_eq]; omega
            have hnx' := Lib.hid (hnx.out.trans (by rw [if_neg ho, Nat.xor_zero]))
            go_wp2_with fail
            go_round
            case rel => exact ⟨j + 1, r / 2, by omega, by go_num, by go_num, Lib.hid hr2, hnx'⟩
            case measure => simp [intOf]; omega
        · have hj8 : j = 8 := by omega
          subst hj8
          have hr8 : r = crc 4294967295 (l.take (k + 1)) := by
            rw [HT.out, ← hv.out, hr.out, show x / 2 ^ 8 = 0 by omega, Nat.xor_zero]
          go_wp2_with fail
          go_round
          case rel => exact ⟨k + 1, r, by omega, by go_num, rfl, hr32, Lib.hid hr8⟩
          case measure => simp [intOf]; omega
    · have hkn : k = n := by omega
      subst hkn
      have hall : l.take l.length = l := List.take_length
      have hmv : m = crc 4294967295 l := by rw [hv.out, ← HN.out, hall]
      have hmm := hm32.out
      have hsum : (4294967295 : Int) - ((crc 4294967295 l : Nat) : Int) = ((sumN l : Nat) : Int) := by unfold sumN; omega
      go_wp2_with fail
      go_ret
      exact ⟨by rw [← hsum]; rfl, rfl⟩
end Go.Proofs.Ytioahddobogpjaa
/- Make: the table of the plain steps. No condition. -/
namespace Go.Proofs.Ytioahddobogpjaa
open Go.RowKit

/-- A table with its first k made. -/
def tabTo (k : Nat) : Array Value := ((List.range 256).map fun i => Value.int .u32 ((if i < k then step8 0 i else 0 : Nat) : Int)).toArray
theorem tabTo_size (k : Nat) : (tabTo k).size = 256 := by simp [tabTo]
theorem tabTo_get {k i : Nat} (h : i < 256) : (tabTo k)[i]? = some (Value.int .u32 ((if i < k then step8 0 i else 0 : Nat) : Int)) := by
  simp [tabTo, List.getElem?_range h]
theorem tabTo_set {k : Nat} : (tabTo k).set! k (Value.int .u32 ((step8 0 k : Nat) : Int)) = tabTo (k + 1) := by
  apply Array.ext_getElem?
  intro i
  rcases Nat.lt_or_ge i 256 with h | h
  · rw [Array.set!_eq_setIfInBounds, Array.getElem?_setIfInBounds, tabTo_get h, tabTo_get h, tabTo_size]
    by_cases hik : k = i
    · subst hik
      rw [if_pos rfl, if_pos h, if_pos (by omega)]
    · rw [if_neg hik]
      by_cases h1 : i < k
      · rw [if_pos h1, if_pos (by omega)]
      · rw [if_neg h1, if_neg (by omega)]
  · rw [Array.getElem?_eq_none (by rw [Array.set!_eq_setIfInBounds, Array.size_setIfInBounds, tabTo_size]; exact h), Array.getElem?_eq_none (by rw [tabTo_size]; exact h)]
theorem tabTo_all (k : Nat) : (tabTo k).all (·.oneCell') = true := by simp [tabTo, Value.oneCell']
theorem table_under : Try.prog.underlying 111 = some (.array 256 24) := by kernel_rfl
theorem table_size (k : Nat) : (Try.prog.info? 111).map (·.size) = some (tabTo k).size := by rw [tabTo_size]; kernel_rfl
theorem zeroTable (w : World) : (zeroValue 111).run Try.prog w = .ok (.agg (tabTo 0)) w := by kernel_rfl
set_option maxHeartbeats 1000000 in
set_option maxRecDepth 20000 in
theorem Make_calls (w : World) :
    Calls Try.prog 64 #[] w fun e w' => e = .returned (.agg (tabTo 256)) ∧ Below w.heap.size w w' := by
  go_enter Try.func64, Try.ntmps64
  go_wp2_with fail
  rw [show Try.zeroCells111 = tabTo 0 by kernel_rfl]
  have hg0 := heap_alloc2_new w (.cells (tabTo 0) 111) (.cells (tabTo 0) 111)
  have hr0 : ((w.alloc (.cells (tabTo 0) 111)).alloc (.cells (tabTo 0) 111)).heap[w.heap.size]? = some (.cells (tabTo 0) 111 (0, 0)) := (Below.heap_alloc _ _ _ (by simp)).trans (heap_alloc_new w _)
  have hb0 : Below w.heap.size w ((w.alloc (.cells (tabTo 0) 111)).alloc (.cells (tabTo 0) 111)) := ((Below.refl _ _).alloc (Nat.le_refl _) _).alloc (by simp) _
  go_wp2_with fail
  go_loopw [3] (fun i wr => ∃ k : Nat, k ≤ 256 ∧ i = .int .i64 k ∧ wr.heap[w.heap.size + 1]? = some (.cells (tabTo k) 111 (0, 0)) ∧ wr.heap[w.heap.size]? = some (.cells (tabTo 0) 111 (0, 0)) ∧ Below w.heap.size w wr) (fun i _ => 256 - (intOf i).toNat)
  case atStart => exact ⟨0, by omega, rfl, hg0, hr0, hb0⟩
  case round =>
    obtain ⟨k, hk, rfl, hg, hr, hb⟩ := hrel
    by_cases hlt : k < 256
    · have hc := cell_of_row wr (w.heap.size + 1) k _ _ _ hg
      rw [tabTo_get hlt] at hc
      have hfz := frozen_of_row wr (w.heap.size + 1) k _ _ hg
      go_wp2_with fail
      refine (Step_calls 0 k _ (by omega) hlt).mono ?_
      rintro e w1 ⟨rfl, rfl⟩
      go_wp2_with fail
      go_roundw
      case rel =>
        refine ⟨k + 1, by omega, by go_num, ?_, (heap_setCell_other _ _ _ _ (by simp)).trans hr, hb.setCell (by simp) _⟩
        have h1 := heap_setCell_same wr (w.heap.size + 1) k _ _ (.int .u32 (step8 0 k : Nat)) hg
        rwa [← Array.set!_eq_setIfInBounds, tabTo_set] at h1
      case measure => simp [intOf]; omega
    · have hk2 : k = 256 := by omega
      subst hk2
      go_wp2_with fail
      refine wp_load_row 111 _ rfl (w.heap.size + 1) rfl _ _ _ _ hg table_under rfl (table_size 256) ?_
      go_wp2_with fail
      have hst := run_storeCells_from (P := Try.prog) w.heap.size _ (tabTo 256).toList 0 _ wr hr (by simp [tabTo_size]) (fun v hv => (Array.all_eq_true_iff_forall_mem.1 (tabTo_all 256)) v (by simpa using hv))
      rw [List.take_zero, List.nil_append, Array.toArray_toList] at hst
      rw [hst]
      simp only [Result.andThen_ok]
      have hr2 := setRow_heap wr w.heap.size _ (tabTo 256) _ _ hr
      have hb2 := below_setRow hb w.heap.size (tabTo 256) (Nat.le_refl _)
      go_wp2_with fail
      refine bodyPost_ret (results_cell_row (P := Try.prog) rfl _ _ w.heap.size _ _ (0, 0) _ rfl hr2 table_under rfl (table_size 256)) rfl ?_
      exact ⟨rfl, hb2⟩
end Go.Proofs.Ytioahddobogpjaa
/- (Table).Sum: of any parts, the sum of them joined. Condition: the table is Make's. -/
namespace Go.Proofs.Ytioahddobogpjaa
open Go.RowKit

theorem crc_take' {s : Nat} {l : List UInt8} {k : Nat} (h : k < l.length) : crc s (l.take (k + 1)) = step8 (crc s (l.take k)) l[k].toNat := crc_take h
set_option maxHeartbeats 1000000 in
set_option maxRecDepth 20000 in
theorem TableSum_calls (A : Option Addr) (vs : List Value) (ls : List (List UInt8)) (n c b : Nat) (w : World) (hs : Sl w b A vs) (hv : Bss w vs ls) (hn : ls.length = n) (h1 : n ≤ maxLen) (h2 : ls.flatten.length ≤ 140737488355328) :
    Calls Try.prog 65 #[.agg (tabTo 256), .slice A n c] w fun e w' => e = .returned (.int .u32 (sumN ls.flatten : Nat)) ∧ Below w.heap.size w w' := by
  unfold maxLen at h1
  have HN := Lib.hid hn
  have HL := Lib.hid h2
  clear hn h2
  go_enter Try.func65, Try.ntmps65
  go_wp2_with fail
  have hb1 : Below w.heap.size w (w.alloc (.cells (tabTo 256) 111)) := (Below.refl _ _).alloc (Nat.le_refl _) _
  have hg := heap_alloc_new w (.cells (tabTo 256) 111)
  obtain ⟨W, hW⟩ : ∃ W, W = w.alloc (.cells (tabTo 256) 111) := ⟨_, rfl⟩
  rw [← hW] at hb1 hg ⊢
  have hs1 := Sl.ext hs hb1
  have hv1 := hv.ext hb1
  clear hW hs hv
  go_loop [5, 12] (fun v i => ∃ k m : Nat, k ≤ n ∧ i = .int .i64 k ∧ v = .int .u32 m ∧ Hid (m < 2 ^ 32) ∧ Hid (m = crc 4294967295 (ls.take k).flatten)) (fun _ i => n - (intOf i).toNat)
  case atStart => exact ⟨0, 4294967295, by omega, rfl, rfl, Lib.hid (by omega), Lib.hid rfl⟩
  case round =>
    obtain ⟨k, m0, hk, rfl, rfl, hm0, hc0⟩ := hrel
    by_cases hlt : k < n
    · have hkl : k < ls.length := by rw [HN.out]; exact hlt
      obtain ⟨A1, c1, b1, hv2, hs2⟩ := hv1.2 k ls[k] (List.getElem?_eq_getElem hkl)
      obtain ⟨oa, rfl, hca⟩ := hs1 (by rintro rfl; simp at hv2)
      have ca := hca k _ hv2
      obtain ⟨q, hq⟩ : ∃ q, q = ls[k] := ⟨_, rfl⟩
      rw [← hq] at ca hs2
      have e1 := Lib.hid (flatten_take_succ ls k hkl)
      have hql : q.length ≤ 140737488355328 := by
        have h3 := flatten_take_le ls (k + 1)
        have h4 := HL.out
        rw [e1.out, ← hq] at h3
        simp only [List.length_append] at h3
        omega
      have HQ := Lib.hid hq
      clear hca hv2 hq
      go_wp2_with fail
      go_loop [5, 18] (fun v i => ∃ j m : Nat, j ≤ q.length ∧ i = .int .i64 j ∧ v = .int .u32 m ∧ Hid (m < 2 ^ 32) ∧ Hid (m = crc m0 (q.take j))) (fun _ i => q.length - (intOf i).toNat)
      case atStart => exact ⟨0, m0, by omega, rfl, rfl, hm0, Lib.hid rfl⟩
      case round =>
        obtain ⟨j, m, hj, rfl, rfl, hm, hc⟩ := hrel
        by_cases hlt2 : j < q.length
        · obtain ⟨o2, rfl, hcb⟩ := hs2.at_ (k := j) hlt2
          have cb := hcb j hlt2
          have HT := Lib.hid (crc_take' (s := m0) hlt2)
          obtain ⟨x, hx⟩ : ∃ x : Nat, x = q[j].toNat := ⟨_, rfl⟩
          have x8 : x < 256 := by have := q[j].toNat_lt; omega
          rw [← hx] at cb HT
          have hmm := hm.out
          have hix : bits .xor .u8 ((m : Int) % 256) (x : Int) = ((m % 256 ^^^ x : Nat) : Int) := by
            rw [show ((m : Int) % 256) = ((m % 256 : Nat) : Int) by omega, u8_xor_nat _ _ (by omega) x8]
          have hil : m % 256 ^^^ x < 256 := Nat.xor_lt_two_pow (n := 8) (by omega) (by omega)
          have hst := step8_table m x
          have hsl := step8_lt hmm x8
          obtain ⟨t, ht⟩ : ∃ t, t = m % 256 ^^^ x := ⟨_, rfl⟩
          rw [← ht] at hix hil hst
          have htb := cell_of_row W w.heap.size t _ _ _ hg
          rw [tabTo_get hil, if_pos hil] at htb
          obtain ⟨z, hz⟩ : ∃ z, z = step8 0 t := ⟨_, rfl⟩
          have hzl : z < 2 ^ 32 := by rw [hz]; exact step8_lt (by omega) hil
          rw [← hz] at htb hst
          have hxo : bits .xor .u32 ((m : Int) / 256) (z : Int) = ((step8 m x : Nat) : Int) := by
            rw [hst, show ((m : Int) / 256) = ((m / 256 : Nat) : Int) by omega, u32_xor_nat _ _ (by omega) (by omega)]
          clear hcb hx hst ht hz hmm
          go_wp2_with fail
          go_round
          case rel => exact ⟨j + 1, step8 m x, by omega, by go_num, rfl, Lib.hid hsl, Lib.hid (by rw [HT.out, hc.out])⟩
          case measure => simp [intOf]; omega
        · have hjl : j = q.length := by omega
          subst hjl
          have hall : m = crc 4294967295 (ls.take (k + 1)).flatten := by rw [hc.out, List.take_length, e1.out, crc_append, ← hc0.out, HQ.out]
          go_wp2_with fail
          go_round
          case rel => exact ⟨k + 1, m, by omega, by go_num, rfl, hm, Lib.hid hall⟩
          case measure => simp [intOf]; omega
    · have hall : m0 = crc 4294967295 ls.flatten := by rw [hc0.out, List.take_of_length_le (by have := HN.out; omega)]
      have hmm := hm0.out
      rw [hall] at hmm
      have hno := Lib.hid (show bits .xor .u32 IntKind.u32.max ((crc 4294967295 ls.flatten : Nat) : Int) = ((sumN ls.flatten : Nat) : Int) by
        rw [show IntKind.u32.max = ((4294967295 : Nat) : Int) from rfl, u32_xor_nat _ _ (by omega) (by omega), sumN, flip_xor hmm])
      go_wp2_with fail
      go_ret
      exact ⟨by rw [← hno.out]; rfl, hb1⟩
end Go.Proofs.Ytioahddobogpjaa
/- The pen's methods: what each call appends, and that only the pen's own memory turns; of a nil pen: nil, nothing. Condition: the sum of the lengths fits. -/
namespace Go.Proofs.Ytioahddobogpjaa
open Go.RowKit

theorem Row.ne_blk {w : World} {B : Nat} {v : Value} {l : List UInt8} (h : Row w B v l) {g : Nat} {cs : Array Value} {t : TypeId} {fr : Nat × Nat} (hg : w.heap[g]? = some (.cells cs t fr)) (ht : t ≠ 5) : v.ownBlock ≠ some g := by
  intro hv
  rcases h.2 with ⟨rfl, _⟩ | ⟨g', cap, cur, rfl, _, hh, _⟩
  · simp [Value.ownBlock] at hv
  · have : g' = g := by simpa [Value.ownBlock] using hv
    subst this
    rw [hh] at hg
    injection hg with hg
    injection hg with _ h2 _
    exact ht h2.symm

/-- A pen in block g, its bytes l in the row r. -/
def PenAt (w : World) (g : Nat) (r : Option Nat) (l : List UInt8) : Prop :=
  ∃ v, w.heap[g]? = some (.cells #[v] 85 (0, 0)) ∧ Row w 0 v l ∧ v.ownBlock = r

/-- What a pen's write may turn: its block, its row; and where its row lies then. -/
def PenStep (g : Nat) (r r' : Option Nat) (w w' : World) : Prop :=
  (r' = r ∨ ∃ k, r' = some k ∧ w.heap.size ≤ k) ∧ Mod (fun i => i = g ∨ r = some i) w w'

theorem PenAt.lt {w : World} {g : Nat} {r : Option Nat} {l : List UInt8} (h : PenAt w g r l) : g < w.heap.size := by
  obtain ⟨v, hg, _⟩ := h
  exact (Array.getElem?_eq_some_iff.1 hg).1
theorem PenAt.mod {w w' : World} {g : Nat} {r : Option Nat} {l : List UInt8} (h : PenAt w g r l) {S : Nat → Prop} (hm : Mod S w w') (hg : ¬ S g) (hr : ∀ k, r = some k → ¬ S k) : PenAt w' g r l := by
  obtain ⟨v, h1, h2, h3⟩ := h
  exact ⟨v, by rw [hm.block g (Array.getElem?_eq_some_iff.1 h1).1 hg]; exact h1, h2.mod hm (fun k hk => hr k (h3 ▸ hk)), h3⟩
theorem PenAt.row_lt {w : World} {g : Nat} {r : Option Nat} {l : List UInt8} (h : PenAt w g r l) : ∀ k, r = some k → k < w.heap.size := by
  obtain ⟨v, _, h2, h3⟩ := h
  intro k hk
  exact (h2.lt k (h3.trans hk)).2
theorem PenAt.ext {w w' : World} {g : Nat} {r : Option Nat} {l : List UInt8} (h : PenAt w g r l) (hm : Below w.heap.size w w') : PenAt w' g r l :=
  h.mod (Mod.of_below hm) (by have := h.lt; omega) (fun k hk => by have := h.row_lt k hk; omega)
theorem PenAt.cast {w : World} {g : Nat} {r : Option Nat} {l l' : List UInt8} (h : PenAt w g r l) (e : l = l') : PenAt w g r l' := e ▸ h
theorem PenStep.refl (g : Nat) (r : Option Nat) (w : World) : PenStep g r r w w := ⟨.inl rfl, Mod.refl _ _⟩
theorem PenStep.trans {g : Nat} {r r1 r2 : Option Nat} {a b c : World} (h : PenStep g r r1 a b) (k : PenStep g r1 r2 b c) : PenStep g r r2 a c := by
  obtain ⟨h1, hm⟩ := h
  obtain ⟨k1, km⟩ := k
  refine ⟨?_, hm.trans km (fun i _ h => h) (fun i hi h => ?_)⟩
  · rcases k1 with rfl | ⟨q, rfl, hq⟩
    · exact h1
    · exact .inr ⟨q, rfl, Nat.le_trans hm.size hq⟩
  · rcases h with h | h
    · exact .inl h
    · rcases h1 with rfl | ⟨q, rfl, hq⟩
      · exact .inr h
      · injection h with h
        omega
theorem PenStep.below {g : Nat} {r r1 : Option Nat} {a b c : World} (h : Below a.heap.size a b) (k : PenStep g r r1 b c) : PenStep g r r1 a c :=
  ⟨k.1.imp id fun ⟨q, e, hq⟩ => ⟨q, e, Nat.le_trans h.size hq⟩, (Mod.of_below h).trans k.2 (fun i hi h => by omega) (fun i _ h => h)⟩
theorem PenStep.ext {g : Nat} {r r1 : Option Nat} {a b c : World} (h : PenStep g r r1 a b) (k : Below b.heap.size b c) : PenStep g r r1 a c :=
  ⟨h.1, h.2.trans (Mod.of_below k) (fun i _ h => h) (fun i hi hh => by have := h.2.size; omega)⟩

theorem pen_store {w : World} {g : Nat} {u v : Value} {l : List UInt8} {n : Nat} (hg : w.heap[g]? = some (.cells #[u] 85 (0, 0))) (hrow : w.ownsRow 0 5 1 v n (bv l)) : PenAt (w.setCell ⟨g, 0, none⟩ v) g v.ownBlock l := by
  have hn : n = l.length := by have := hrow.1; simpa using this.symm
  subst hn
  have hrow : Row w 0 v l := hrow
  exact ⟨v, by rw [heap_setCell_same w g 0 _ _ v hg]; rfl, hrow.mod (Mod.setCell w _ v) (fun k hk hkg => hrow.ne_blk hg (by decide) (by rw [hk, show k = g from hkg])), rfl⟩

set_option maxHeartbeats 400000 in
theorem add_calls (g : Nat) (r : Option Nat) (l : List UInt8) (A : Option Addr) (more : List UInt8) (n c b : Nat) (w : World) (hp : PenAt w g r l) (hs : Bs w b A more) (hn : more.length = n) (hlen : l.length + n ≤ 140737488355328) :
    Calls Try.prog 61 #[.pointer (some ⟨g, 0, none⟩), .slice A n c] w fun e w' => e = .returned (.pointer (some ⟨g, 0, none⟩)) ∧ ∃ r', PenAt w' g r' (l ++ more) ∧ PenStep g r r' w w' := by
  obtain ⟨v, hg, hrow, hr⟩ := hp
  have hc := cell_of_row w g 0 _ _ _ hg
  have hf := frozen_of_row w g 0 _ _ hg
  have hne := hrow.ne_blk hg (by decide)
  have hglt : g < w.heap.size := (Array.getElem?_eq_some_iff.1 hg).1
  simp only [List.getElem?_toArray, List.getElem?_cons_zero] at hc
  have HG := Lib.hid hg
  have HR := Lib.hid hr
  have HNE := Lib.hid hne
  clear hg hr hne
  go_enter Try.func61, Try.ntmps61
  go_wp2_with (at_builtin; refine wpList_app w rfl (.tmp 11) (.tmp 12) rfl 0 v l rfl hrow b A n c more rfl hs hn hlen (Nat.zero_le _) ?_; intro v' w1 hrow1 hmod hat; have hg1 := Lib.hid ((hmod.block g hglt HNE.out).trans HG.out); have hc1 : w1.cell? ⟨g, 0, none⟩ = some v := (cell_of_row w1 g 0 _ _ _ hg1.out).trans rfl; have hf1 := frozen_of_row w1 g 0 _ _ hg1.out; obtain ⟨A', c', b', hv', _⟩ := hrow1.sl; subst hv')
  go_ret
  have hmm : Mod (fun i => i = g ∨ r = some i) w w1 := hmod.mono fun i _ h => .inr (HR.out.symm.trans h)
  have el : (l ++ more).length = l.length + n := by simp [hn]
  rw [el] at hrow1 hat
  have hat' : (Value.slice A' (l.length + n) c').ownBlock = r ∨ ∃ k, (Value.slice A' (l.length + n) c').ownBlock = some k ∧ w.heap.size ≤ k := hat.imp (fun h => h.trans HR.out) (fun h => ⟨_, h, Nat.le_refl _⟩)
  exact ⟨rfl, _, pen_store hg1.out hrow1, hat', hmm.trans (Mod.setCell w1 _ _) (fun i _ h => h) (fun i _ h => .inl h)⟩

theorem add_nil (v : Value) (w : World) : Calls Try.prog 61 #[.pointer none, v] w fun e w' => e = .returned (.pointer none) ∧ w = w' := by
  go_enter Try.func61, Try.ntmps61
  go_wp2
  go_ret
  exact ⟨rfl, rfl⟩

/-- What each write's contract says. -/
def Wrote (g : Nat) (r : Option Nat) (l : List UInt8) (w : World) (e : Ending) (w' : World) : Prop :=
  e = .returned (.pointer (some ⟨g, 0, none⟩)) ∧ ∃ r', PenAt w' g r' l ∧ PenStep g r r' w w'

theorem low_one (n : Nat) : low n 1 = [UInt8.ofNat n] := by simp [low]
theorem bv_low_one (n : Nat) (h : n < 256) : bv (low n 1) = [.int .u8 (n : Int)] := by
  rw [low_one]
  simp only [bv, List.map_cons, List.map_nil, u8_ofNat]
  rw [Int.emod_eq_of_lt (by omega) (by omega)]
theorem bv_low_two (n : Nat) (h : n < 65536) : bv (low n 2) = [.int .u8 ((n : Int) % 256), .int .u8 ((n : Int) / 256)] := by
  simp only [low, List.range_succ, List.range_zero, List.nil_append, List.map_cons, List.map_nil, bv, u8_ofNat, List.cons_append]
  simp
  omega
theorem bv_low_four (n : Nat) (h : n < 4294967296) : bv (low n 4) = [.int .u8 ((n : Int) % 256), .int .u8 ((n : Int) / 256 % 256), .int .u8 ((n : Int) / 65536 % 256), .int .u8 ((n : Int) / 16777216)] := by
  simp only [low, List.range_succ, List.range_zero, List.nil_append, List.map_cons, List.map_nil, bv, u8_ofNat, List.cons_append]
  simp
  omega

set_option maxHeartbeats 400000 in
theorem PenWord_calls (g : Nat) (r : Option Nat) (l : List UInt8) (n : Nat) (w : World) (hp : PenAt w g r l) (hn : n < 4294967296) (hlen : l.length + 4 ≤ 140737488355328) :
    Calls Try.prog 41 #[.pointer (some ⟨g, 0, none⟩), .int .u32 n] w (Wrote g r (l ++ low n 4) w) := by
  have hb := Lib.hid (bv_low_four n hn)
  go_enter Try.func41, Try.ntmps41
  go_wp2_with fail
  have hx : Below w.heap.size w (w.alloc (.cells #[.int .u8 ((n : Int) % 256), .int .u8 ((n : Int) / 256 % 256), .int .u8 ((n : Int) / 65536 % 256), .int .u8 ((n : Int) / 16777216)] 5)) := (Below.refl _ _).alloc (Nat.le_refl _) _
  refine (add_calls g r l _ (low n 4) 4 4 w.heap.size _ (hp.ext hx) (by unfold Bs; rw [hb.out]; exact Sl.cells_new w _ _) (by simp) hlen).mono ?_
  rintro e w1 ⟨rfl, r', hp', hst⟩
  go_wp2
  go_ret
  exact ⟨rfl, r', hp', PenStep.below hx hst⟩

set_option maxHeartbeats 400000 in
theorem PenBytes_calls (g : Nat) (r : Option Nat) (l : List UInt8) (w : World) (hp : PenAt w g r l) (hlen : l.length ≤ 140737488355328) :
    Calls Try.prog 43 #[.pointer (some ⟨g, 0, none⟩)] w fun e w' => ∃ v, e = .returned v ∧ Row w' w.heap.size v l ∧ Below w.heap.size w w' := by
  obtain ⟨v, hg, hrow, hr⟩ := hp
  obtain ⟨A, c, b, rfl, _, _, _, _, hs, _⟩ := hrow.sl
  have hc := cell_of_row w g 0 _ _ _ hg
  simp only [List.getElem?_toArray, List.getElem?_cons_zero] at hc
  clear hr hrow hg
  go_enter Try.func43, Try.ntmps43
  go_wp2_with (at_builtin; refine wpList_app w rfl (.const (.slice none 0 0)) (.tmp 8) rfl w.heap.size (.slice none 0 0) [] rfl (Row.nil_ _ _) b A l.length c l rfl hs rfl (by simp; omega) (Nat.le_refl _) ?_; intro v' w1 hrow1 hmod hat; obtain ⟨A', c', b', hv', _⟩ := hrow1.sl; subst hv')
  go_ret
  exact ⟨_, rfl, hrow1, hmod.below (Nat.le_refl _) (fun i _ h => by simp [Value.ownBlock] at h)⟩
end Go.Proofs.Ytioahddobogpjaa
/- Hash and Labels of a board: the sums of what is written of each cell. Conditions: a board has 48 cells at most; the cells fit. -/
namespace Go.Proofs.Ytioahddobogpjaa
open Go.RowKit

def uN (x : Int) : Nat := (x % 4294967296).toNat
theorem uN_lt (x : Int) : uN x < 4294967296 := by unfold uN; omega
theorem uN_wrap (x : Int) : IntKind.u32.wrap x = ((uN x : Nat) : Int) := by rw [IntKind.wrap_u32]; unfold uN; omega
theorem uN_mod (x : Int) : x % 4294967296 = ((uN x : Nat) : Int) := by unfold uN; omega
/-- What is written of a cell. -/
def cellB (c : Int × Nat) : List UInt8 := low (uN c.1) 4 ++ low c.2 4
def labB (c : Int × Nat) : List UInt8 := low c.2 4
def cellsB (L : List (Int × Nat)) : List UInt8 := L.flatMap cellB
def labsB (L : List (Int × Nat)) : List UInt8 := L.flatMap labB
theorem cellsB_len (L : List (Int × Nat)) : (cellsB L).length = 8 * L.length := by
  induction L with
  | nil => rfl
  | cons c L ih => simp only [cellsB, List.flatMap_cons, List.length_append, List.length_cons] at ih ⊢; rw [ih]; simp [cellB]; omega
theorem labsB_len (L : List (Int × Nat)) : (labsB L).length = 4 * L.length := by
  induction L with
  | nil => rfl
  | cons c L ih => simp only [labsB, List.flatMap_cons, List.length_append, List.length_cons] at ih ⊢; rw [ih]; simp [labB]; omega
theorem cellsB_snoc (L : List (Int × Nat)) (c : Int × Nat) : cellsB (L ++ [c]) = cellsB L ++ cellB c := by simp [cellsB]
theorem labsB_snoc (L : List (Int × Nat)) (c : Int × Nat) : labsB (L ++ [c]) = labsB L ++ labB c := by simp [labsB]
/-- The sums. -/
def hashL (L : List (Int × Nat)) : Nat := sumN (cellsB L)
def labsL (L : List (Int × Nat)) : Nat := sumN (labsB L)
theorem take_snoc1 {α : Type} {L : List α} {k : Nat} (hk : k < L.length) : L.take (k + 1) = L.take k ++ [L[k]] := by rw [List.take_succ_eq_append_getElem hk]
theorem pen_far {w w' : World} {g B : Nat} {r : Option Nat} {cs : Array Value} {t : TypeId} {fr : Nat × Nat} (h : Mod (fun i => i = g ∨ r = some i) w w') (hB : B < w.heap.size) (hg : B ≠ g) (hr : ∀ k, r = some k → B ≠ k) (q : w.heap[B]? = some (.cells cs t fr)) : w'.heap[B]? = some (.cells cs t fr) :=
  (h.block B hB (fun hh => hh.elim hg (fun e => hr B e rfl))).trans q
theorem pen_ne {w : World} {g k : Nat} {r : Option Nat} {l : List UInt8} (hp : PenAt w g r l) (hk : w.heap.size ≤ k) : k ≠ g ∧ ∀ j, r = some j → k ≠ j :=
  ⟨by have := hp.lt; omega, fun j hj => by have := hp.row_lt j hj; omega⟩
set_option maxHeartbeats 4000000 in
set_option maxRecDepth 20000 in
theorem whole_calls (x : Int) (y g : Nat) (r : Option Nat) (l : List UInt8) (w : World) (hp : PenAt w g r l) (hy : y < 4294967296) (hlen : l.length ≤ 1000000) :
    Calls Try.prog 58 #[.agg #[.int .i32 x, .int .u32 (y : Int)], .pointer (some ⟨g, 0, none⟩)] w fun e w' => e = .returned (.tuple #[]) ∧ ∃ r', PenAt w' g r' (l ++ cellB (x, y)) ∧ PenStep g r r' w w' := by
  have hb := below_drew (below_alloc1 w (.cells #[.int .i32 x, .int .u32 (y : Int)] 29))
  have hp0 := PenAt.ext hp hb
  have q0 := BoxC.new_ w x y
  have hne := pen_ne hp (Nat.le_refl _)
  have hw := uN_wrap x
  have hw2 := uN_mod x
  have hul := uN_lt x
  obtain ⟨u, hu⟩ : ∃ u, u = uN x := ⟨_, rfl⟩
  have hB : low u 4 ++ low y 4 = cellB (x, y) := by rw [hu]; rfl
  rw [← hu] at hw hw2 hul
  have HB := Lib.hid hB
  clear hu hB
  go_enter Try.func58, Try.ntmps58
  go_wp2_with fail
  refine wp_region_held_drew (S := fun w' => BoxC w' w.heap.size x y) (by kernel_rfl) ?_ (fun hHeld => ?_)
  · exact q0
  refine wpAnyH_take (i := 0) (v := ?mv0) (by simp only [List.getElem?_toArray, List.getElem?_cons_zero]; rfl) (by kernel_rfl) (by kernel_rfl) (by kernel_rfl) (by exact fun _ _ _ h => h) (Or.inl ⟨by rfl, ?my0⟩) hHeld ?_
  case my0 => (intro w hSw; (try dsimp only at hSw); have hz0 := hSw.c0; have hz1 := hSw.c1; clear hSw; go_simp; try (with_reducible rfl))
  try simp only [Act.put, List.setIfInBounds_toArray, List.set_cons_zero, List.set_cons_succ]
  refine wpAnyH_take (i := 1) (v := ?mv1) (by simp only [List.getElem?_toArray, List.getElem?_cons_succ, List.getElem?_cons_zero]; rfl) (by kernel_rfl) (by kernel_rfl) (by kernel_rfl) (by exact fun _ _ _ h => h) (Or.inl ⟨by rfl, ?my1⟩) hHeld ?_
  case my1 => (intro w hSw; (try dsimp only at hSw); have hz0 := hSw.c0; have hz1 := hSw.c1; clear hSw; go_simp; try (with_reducible rfl))
  try simp only [Act.put, List.setIfInBounds_toArray, List.set_cons_zero, List.set_cons_succ]
  refine wpAnyH_take (i := 2) (v := ?mv2) (by simp only [List.getElem?_toArray, List.getElem?_cons_succ, List.getElem?_cons_zero]; rfl) (by kernel_rfl) (by kernel_rfl) (by kernel_rfl) (by exact fun _ _ _ h => h) (Or.inl ⟨by rfl, ?my2⟩) hHeld ?_
  case my2 => (intro w hSw; (try dsimp only at hSw); have hz0 := hSw.c0; have hz1 := hSw.c1; clear hSw; go_simp; try (with_reducible rfl))
  try simp only [Act.put, List.setIfInBounds_toArray, List.set_cons_zero, List.set_cons_succ]
  refine wpAnyH_take (i := 3) (v := ?mv3) (by simp only [List.getElem?_toArray, List.getElem?_cons_succ, List.getElem?_cons_zero]; rfl) (by kernel_rfl) (by kernel_rfl) (by kernel_rfl) (by exact fun _ _ _ h => h) (Or.inl ⟨by rfl, ?my3⟩) hHeld ?_
  case my3 => (intro w hSw; (try dsimp only at hSw); have hz0 := hSw.c0; have hz1 := hSw.c1; clear hSw; go_simp; try (with_reducible rfl))
  try simp only [Act.put, List.setIfInBounds_toArray, List.set_cons_zero, List.set_cons_succ]
  refine wpAnyH_take (i := 5) (v := ?mv5) (by simp only [List.getElem?_toArray, List.getElem?_cons_succ, List.getElem?_cons_zero]; rfl) (by kernel_rfl) (by kernel_rfl) (by kernel_rfl) (by exact fun _ _ _ h => h) (Or.inl ⟨by rfl, ?my5⟩) hHeld ?_
  case my5 => (intro w hSw; (try dsimp only at hSw); have hz0 := hSw.c0; have hz1 := hSw.c1; clear hSw; go_simp; try (with_reducible rfl))
  try simp only [Act.put, List.setIfInBounds_toArray, List.set_cons_zero, List.set_cons_succ]
  refine wpAnyH_take (i := 6) (v := ?mv6) (by simp only [List.getElem?_toArray, List.getElem?_cons_succ, List.getElem?_cons_zero]; rfl) (by kernel_rfl) (by kernel_rfl) (by kernel_rfl) (by exact fun _ _ _ h => h) (Or.inl ⟨by rfl, ?my6⟩) hHeld ?_
  case my6 => (intro w hSw; (try dsimp only at hSw); have hz0 := hSw.c0; have hz1 := hSw.c1; clear hSw; go_simp; try (with_reducible rfl))
  try simp only [Act.put, List.setIfInBounds_toArray, List.set_cons_zero, List.set_cons_succ]
  refine wpAnyH_ready (rs := [4]) (by kernel_rfl) (by simp) ?_
  refine AllReadyH.cons (by simp only [List.getElem?_toArray, List.getElem?_cons_succ, List.getElem?_cons_zero]; rfl) (fun KK hKK => ?_) AllReadyH.nil
  go_simp
  refine (PenWord_calls g r l u _ hp0 hul (by omega)).mono ?_
  rintro e w1 ⟨rfl, r1, hp1, hst1⟩
  have q1 : BoxC w1 w.heap.size x y := pen_far hst1.2 (by show w.heap.size < (w.alloc _).heap.size; simp) hne.1 hne.2 q0
  go_wp2_with fail
  refine hKK.out _ _ ?_ (fun hHeld => ?_)
  · exact q1
  clear hKK KK
  try simp only [Act.put, List.setIfInBounds_toArray, List.set_cons_zero, List.set_cons_succ]
  refine wpAnyH_ready (rs := [7]) (by kernel_rfl) (by simp) ?_
  refine AllReadyH.cons (by simp only [List.getElem?_toArray, List.getElem?_cons_succ, List.getElem?_cons_zero]; rfl) (fun KK hKK => ?_) AllReadyH.nil
  go_simp
  refine (PenWord_calls g r1 (l ++ low u 4) y _ hp1 hy (by simp; omega)).mono ?_
  rintro e w2 ⟨rfl, r2, hp2, hst2⟩
  have hne2 := hst1.1
  have q2 : BoxC w2 w.heap.size x y := pen_far hst2.2 q1.lt hne.1 (fun k hk => by rcases hst1.1 with h | ⟨q, h, hq⟩; exact hne.2 k (h ▸ hk); (have e := h.symm.trans hk; injection e with e; have hq : (w.alloc (.cells #[.int .i32 x, .int .u32 (y : Int)] 29)).heap.size ≤ q := hq; simp at hq; omega)) q1
  go_wp2_with fail
  refine hKK.out _ _ ?_ (fun hHeld => ?_)
  · exact q2
  clear hKK KK
  try simp only [Act.put, List.setIfInBounds_toArray, List.set_cons_zero, List.set_cons_succ]
  refine wpAnyH_done (by kernel_rfl) ?_ _
  go_wp2_with fail
  go_end0
  exact ⟨rfl, r2, hp2.cast (by rw [List.append_assoc, HB.out]), PenStep.below hb (hst1.trans hst2)⟩
set_option maxHeartbeats 8000000 in
set_option maxRecDepth 20000 in
theorem Hash_sum (L : List (Int × Nat)) (w : World) (hL : L.length ≤ 48) (hok : okC L) :
    Calls Try.prog 57 #[.agg (bdL L), .func (.func 58) #[] #[]] w fun e w' => e = .returned (.int .u32 (hashL L : Nat)) ∧ Below w.heap.size w w' := by
  have q0 := BoxL.new_ w L
  have HOK := Lib.hid hok
  have hpn : PenAt ((w.alloc (.cells (bdL L) 32)).alloc (.cells #[.slice none 0 0] 85)) (w.heap.size + 1) none [] := by
    refine ⟨.slice none 0 0, ?_, Row.nil_ _ _, rfl⟩
    have := heap_alloc_new (w.alloc (.cells (bdL L) 32)) (.cells #[.slice none 0 0] 85)
    rwa [show (w.alloc (.cells (bdL L) 32)).heap.size = w.heap.size + 1 by simp] at this
  have q0 := q0.alloc (.cells #[.slice none 0 0] 85)
  have hb := below_alloc2 w (.cells (bdL L) 32) (.cells #[.slice none 0 0] 85)
  have hc0 := BoxB.cn q0
  have ei : (L.length : Int) ≤ 48 := by omega
  have hlen := cellsB_len L
  clear hok
  obtain ⟨n, hn⟩ : ∃ n, n = L.length := ⟨_, rfl⟩
  rw [← hn] at hc0 ei hL hlen
  have hlen2 : (cellsB L).length ≤ 1000 := by omega
  have HN := Lib.hid hn
  clear hn hlen
  go_enter Try.func57, Try.ntmps57
  go_wp2_with fail
  go_loopw [7, 13] (fun p i wr => ∃ (k : Nat) (r : Option Nat), k ≤ n ∧ i = .int .i64 k ∧ BoxL wr w.heap.size L ∧ PenAt wr (w.heap.size + 1) r (cellsB (L.take k)) ∧ (∀ j, r = some j → w.heap.size + 1 < j) ∧ Below w.heap.size w wr) (fun _ i _ => n - (intOf i).toNat)
  case atStart => exact ⟨0, none, Nat.zero_le _, rfl, q0, hpn, fun j hj => (by cases hj), hb⟩
  case round =>
    obtain ⟨k, r, hk, rfl, r0, hp, hrn, hb1⟩ := hrel
    rename_i v0 _
    clear q0 hb hc0 hpn
    by_cases hlt : k < n
    · have hkL : k < L.length := by rw [← HN.out]; exact hlt
      have a0 := BoxB.cv r0 (i := k) (by omega)
      have a1 := BoxB.cl r0 (i := k) (by omega)
      rw [bdF_in hkL] at a0
      rw [bdG_in hkL] at a1
      have hy := (okC_get HOK.out hkL).2
      have hsn : cellsB (L.take (k + 1)) = cellsB (L.take k) ++ cellB L[k] := by rw [take_snoc1 hkL, cellsB_snoc]
      have hpl := cellsB_len (L.take k)
      obtain ⟨p, hp'⟩ : ∃ p, p = L[k] := ⟨_, rfl⟩
      rw [← hp'] at a0 a1 hy hsn
      obtain ⟨x, y⟩ := p
      have HS := Lib.hid hsn
      have ek : (k : Int) < 48 := by omega
      have ej : (k : Int) < (n : Int) := by omega
      simp only at a0 a1 hy
      have hz := r0.lt
      have hpl2 : (cellsB (L.take k)).length ≤ 1000 := by rw [hpl, List.length_take]; omega
      have h9 := below_alloc1 wr (.cells #[.int .i32 x, .int .u32 (y : Int)] 29)
      have hp2 := PenAt.ext hp h9
      have r1 := r0.ext h9
      have hb2 := hb1.trans (h9.mono hb1.size)
      clear hp' hsn hpl
      go_wp2_with fail
      refine (whole_calls x y (w.heap.size + 1) r _ _ hp2 hy (by omega)).mono ?_
      rintro e w2 ⟨rfl, r', hp3, hst⟩
      have r2 : BoxL w2 w.heap.size L := r1.mod hst.2 (fun h => by rcases h with h | h; omega; (have := hrn _ h; omega))
      have hz2 := hb2.size
      have hb3 : Below w.heap.size w w2 := hb2.trans (hst.2.below hb2.size (fun i hi h => by rcases h with h | h; omega; (have := hrn _ h; omega)))
      have hrn2 : ∀ j, r' = some j → w.heap.size + 1 < j := fun j hj => by
        rcases hst.1 with h | ⟨q, h, hq⟩
        · exact hrn j (h ▸ hj)
        · have e := h.symm.trans hj
          injection e with e
          have := hp2.lt
          omega
      go_wp2_with fail
      go_roundw
      case rel => exact ⟨k + 1, r', by omega, by go_num, r2, hp3.cast (by rw [HS.out]), hrn2, hb3⟩
      case measure => simp [intOf]; omega
    · obtain rfl : n = k := by omega
      rw [HN.out, List.take_length] at hp
      go_wp2_with fail
      refine (Make_calls _).mono ?_
      rintro e w3 ⟨rfl, h3⟩
      have hp := PenAt.ext hp h3
      have hb3 := hb1.trans (h3.mono hb1.size)
      clear h3
      go_wp2_with fail
      refine (PenBytes_calls (w.heap.size + 1) r _ _ hp (by omega)).mono ?_
      rintro e w4 ⟨v4, rfl, hrow, h4⟩
      obtain ⟨A4, c4, b4, rfl, _, _, _, _, hs4, _⟩ := hrow.sl
      have hb4 := hb3.trans (h4.mono hb3.size)
      clear h4 hrow
      have h5 := below_alloc1 w4 (.cells #[.slice A4 (cellsB L).length c4] 36)
      have hs5 := Sl.ext hs4 h5
      have hb5 := hb4.trans (h5.mono hb4.size)
      have hsl := Sl.one_new w4 (.slice A4 (cellsB L).length c4) 36
      go_wp2_with fail
      refine (TableSum_calls _ [.slice A4 (cellsB L).length c4] [cellsB L] 1 1 w4.heap.size _ hsl (Bss.cons hs5 rfl (Bss.nil_ _)) rfl (by simp [maxLen]) (by simp; omega)).mono ?_
      rintro e w6 ⟨rfl, h6⟩
      have hb6 := hb5.trans (h6.mono hb5.size)
      go_wp2_with fail
      go_ret
      exact ⟨rfl, hb6⟩
set_option maxHeartbeats 1000000 in
set_option maxRecDepth 20000 in
theorem Hash_calls (L : List (Int × Nat)) (w : World) (hL : L.length ≤ 48) (hok : okC L) :
    Calls Try.prog 34 #[.agg (bdL L)] w fun e w' => e = .returned (.int .u32 (hashL L : Nat)) ∧ Below w.heap.size w w' := by
  have q := BoxL.new_ w L
  have hb := below_alloc1 w (.cells (bdL L) 32)
  have hS := fun W => Hash_sum L W hL hok
  obtain ⟨z, hz⟩ : ∃ z, z = hashL L := ⟨_, rfl⟩
  rw [← hz] at hS ⊢
  clear hz
  go_enter Try.func34, Try.ntmps34
  go_wp2_with ((with_reducible refine at_ld 32 1 ?_); refine wpList_ld rfl (.tmp 1) rfl w.heap.size rfl L q ?_)
  refine (hS _).mono ?_
  rintro e w1 ⟨rfl, h1⟩
  go_wp2_with fail
  go_ret
  exact ⟨rfl, hb.trans (h1.mono hb.size)⟩
end Go.Proofs.Ytioahddobogpjaa
/- The reference's Sees, View, Put, Same over lists of cells. Conditions: those said. -/
namespace Go.Proofs.Ytioahddobogpjaa
open Go.RowKit

theorem sl_cell {w : World} {b off : Nat} {L : List (Int × Nat)} (h : ∀ j u, (cv L)[j]? = some u → w.cell? ⟨b, off + j, none⟩ = some u) {i : Nat} (hi : i < L.length) :
    w.cell? ⟨b, off + i * 2, none⟩ = some (.int .i32 L[i].1) ∧ w.cell? ⟨b, off + i * 2 + 1, none⟩ = some (.int .u32 ((L[i].2 : Nat) : Int)) :=
  ⟨h _ _ (cv_val hi), h _ _ (cv_lab hi)⟩
theorem sl_off {w : World} {b : Nat} {A : Option Addr} {L : List (Int × Nat)} (h : Sl w b A (cv L)) {i : Nat} (hi : i < L.length) :
    ∃ off, A = some ⟨b, off, none⟩ ∧ w.cell? ⟨b, off + i * 2, none⟩ = some (.int .i32 L[i].1) ∧ w.cell? ⟨b, off + i * 2 + 1, none⟩ = some (.int .u32 ((L[i].2 : Nat) : Int)) := by
  obtain ⟨off, e, hc⟩ := h (by intro h0; have := congrArg List.length h0; simp at this; omega)
  exact ⟨off, e, sl_cell hc hi⟩
theorem sees_bit {m k : Nat} (hk : k < 32) : sees m (k : Int) = m.testBit k := by
  unfold sees
  rw [aloneN_nat hk]
  have : m &&& 2 ^ k = if m.testBit k = true then 2 ^ k else 0 := by
    apply Nat.eq_of_testBit_eq
    intro j
    rw [Nat.testBit_and, Nat.testBit_two_pow]
    by_cases h : m.testBit k = true
    · rw [if_pos h, Nat.testBit_two_pow]
      by_cases hij : k = j
      · subst hij; simp [h]
      · simp [hij]
    · rw [if_neg h, Nat.zero_testBit]
      by_cases hij : k = j
      · subst hij; simp [h]
      · simp [hij]
  rw [this]
  cases h : m.testBit k <;> simp
theorem sees_out {m : Nat} {o : Int} (h : ¬(0 ≤ o ∧ o < 32)) : sees m o = false := by
  unfold sees aloneN
  rw [if_neg h]
  simp
/-- Block b is a cell of the reference's. -/
def BoxV (w : World) (b : Nat) (x : Int) (y : Nat) : Prop := w.heap[b]? = some (.cells #[.int .i32 x, .int .u32 (y : Int)] 83 (0, 0))
set_option maxHeartbeats 2000000 in
set_option maxRecDepth 20000 in
theorem RefSees_calls (x : Int) (y : Nat) (o : Int) (w : World) (hy : y < 4294967296) :
    Calls Try.prog 59 #[.agg #[.int .i32 x, .int .u32 (y : Int)], .int .i64 o] w fun e w' => e = .returned (.bool (sees y o)) ∧ Below w.heap.size w w' := by
  have hb := below_alloc1 w (.cells #[.int .i32 x, .int .u32 (y : Int)] 83)
  obtain ⟨r, hr⟩ : ∃ r, r = sees y o := ⟨_, rfl⟩
  rw [← hr]
  have HR := Lib.hid hr
  clear hr
  by_cases h0 : 0 ≤ o
  · by_cases h1 : o < 32
    · obtain ⟨k, rfl⟩ : ∃ k : Nat, o = (k : Int) := ⟨o.toNat, by omega⟩
      have hb2 : ((y : Int) / 2 ^ k).tmod 2 = (((y / 2 ^ k) % 2 : Nat) : Int) := by
        rw [Int.tmod_eq_emod_of_nonneg (Int.ediv_nonneg (by omega) (Int.pow_nonneg (by omega)))]
        simp
      have hb3 : (((y : Int) / 2 ^ k).tmod 2 == 1) = r := by
        rw [HR.out, sees_bit (by omega), hb2, Nat.testBit_eq_decide_div_mod_eq, Bool.eq_iff_iff]
        simp only [beq_iff_eq, decide_eq_true_eq]
        omega
      have e1 : decide ((k : Int) < 32) = true := by simp; omega
      have e0 : decide ((0 : Int) ≤ (k : Int)) = true := by simp
      clear hb2
      go_enter Try.func59, Try.ntmps59
      go_wp2_with fail
      go_ret
      exact ⟨rfl, hb⟩
    · have e1 : decide (o < 32) = false := by simp; omega
      have e0 : decide (0 ≤ o) = true := by simp; omega
      go_enter Try.func59, Try.ntmps59
      go_wp2_with fail
      go_ret
      exact ⟨by rw [HR.out, sees_out (by omega)]; rfl, hb⟩
  · have e0 : decide (0 ≤ o) = false := by simp; omega
    go_enter Try.func59, Try.ntmps59
    go_wp2_with fail
    go_ret
    exact ⟨by rw [HR.out, sees_out (by omega)]; rfl, hb⟩
theorem take_next {α : Type} {L : List α} {k : Nat} (hk : k < L.length) : L.take (k + 1) = L.take k ++ [L[k]] := by
  rw [List.take_succ_eq_append_getElem hk]
set_option maxHeartbeats 4000000 in
set_option maxRecDepth 20000 in
theorem RefView_calls (A : Option Addr) (L : List (Int × Nat)) (n c b : Nat) (o : Int) (w : World) (hs : Sl w b A (cv L)) (hn : L.length = n) (hm : n ≤ 1000000) (hok : okC L) :
    Calls Try.prog 37 #[.slice A n c, .int .i64 o] w fun e w' => ∃ v, e = .returned v ∧ RowC 83 w' w.heap.size v (viewL o L) ∧ Below w.heap.size w w' := by
  subst hn
  have HOK := Lib.hid hok
  clear hok
  go_enter Try.func37, Try.ntmps37
  go_wp2_with fail
  go_loopw [5, 7, 10] (fun out p i wr => ∃ k : Nat, k ≤ L.length ∧ i = .int .i64 k ∧ RowC 83 wr w.heap.size out (viewL o (L.take k)) ∧ Below w.heap.size w wr) (fun _ _ i _ => L.length - (intOf i).toNat)
  case atStart => exact ⟨0, Nat.zero_le _, rfl, RowC.nil_ _ _ _, Below.refl _ _⟩
  case round =>
    obtain ⟨k, hk, rfl, hr, hb⟩ := hrel
    rename_i v0 _ _
    by_cases hlt : k < L.length
    · obtain ⟨off, rfl, h0, h1⟩ := sl_off (Sl.ext hs hb) hlt
      have hy := (okC_get HOK.out hlt).2
      have hvl : viewL o (L.take (k + 1)) = viewL o (L.take k) ++ [seeC o L[k]] := by unfold viewL; rw [take_next hlt, List.map_append]; rfl
      have hlen : (viewL o (L.take k)).length = k := by simp; omega
      have hsc : seeC o L[k] = (if sees L[k].2 o = true then L[k].1 else 0, L[k].2) := by unfold seeC; split <;> rfl
      obtain ⟨x, hx⟩ : ∃ x, x = L[k].1 := ⟨_, rfl⟩
      obtain ⟨y, hy'⟩ : ∃ y, y = L[k].2 := ⟨_, rfl⟩
      rw [← hx, ← hy'] at hsc
      rw [← hx] at h0
      rw [← hy'] at h1 hy
      have hH := fun W => RefSees_calls x y o W hy
      obtain ⟨d, hd⟩ : ∃ d, d = sees y o := ⟨_, rfl⟩
      rw [← hd] at hsc hH
      have HV := Lib.hid hvl
      have HL := Lib.hid hlen
      have ej : (k : Int) < (L.length : Int) := by omega
      have hzb := hb.size
      clear hd hx hy' hvl hlen
      have q0 : BoxV (wr.alloc (.cells #[.int .i32 x, .int .u32 (y : Int)] 83)) wr.heap.size x y := heap_alloc_new wr _
      cases d with
      | true =>
        rw [if_pos rfl] at hsc
        have HS := Lib.hid hsc
        clear hsc
        go_wp2_with fail
        refine (hH _).mono ?_
        rintro e w2 ⟨rfl, hb2⟩
        have q1 : BoxV w2 wr.heap.size x y := (hb2.block _ (by simp)).trans q0
        have c0 := cell_of_row w2 wr.heap.size 0 _ _ _ q1
        have c1 := cell_of_row w2 wr.heap.size 1 _ _ _ q1
        simp only [List.getElem?_toArray, List.getElem?_cons_zero, List.getElem?_cons_succ] at c0 c1
        have hb3 := (hb.alloc hzb (.cells #[.int .i32 x, .int .u32 (y : Int)] 83)).trans (hb2.mono (by simp; omega))
        have hr2 := RowC.ext (World.ownsRow.alloc hr (.cells #[.int .i32 x, .int .u32 (y : Int)] 83)) hb2
        have hz3 := hb3.size
        clear hb2 q0 hH
        go_wp2_with ((with_reducible refine at_ca 22 _ ?_); refine wpList_appC _ Try.underlying42 cellR_info rfl (.tmp 19) (.tmp 21) rfl w.heap.size _ (viewL o (L.take k)) rfl (World.ownsRow.alloc hr2 _) _ (some ⟨_, 0, none⟩) 1 1 [(x, y)] rfl (Sl.cell_new _ (x, y) _) rfl (by rw [HL.out]; omega) (by simp; omega) ?_; intro v' w4 hrow hmod hat)
        have hb4 := (hb3.alloc hz3 _).trans (hmod.below_own (B := w.heap.size) (by simp; omega) (fun i h => (World.ownsRow.lt hr2 i h).1))
        go_roundw
        case rel => exact ⟨k + 1, by omega, by go_num, by rw [HV.out, HS.out]; exact hrow, hb4⟩
        case measure => simp [intOf]; omega
      | false =>
        rw [if_neg (by simp)] at hsc
        have HS := Lib.hid hsc
        clear hsc
        go_wp2_with fail
        refine (hH _).mono ?_
        rintro e w2 ⟨rfl, hb2⟩
        have q1 : BoxV w2 wr.heap.size x y := (hb2.block _ (by simp)).trans q0
        have c0 := cell_of_row w2 wr.heap.size 0 _ _ _ q1
        have c1 := cell_of_row w2 wr.heap.size 1 _ _ _ q1
        have f0 := frozen_of_row w2 wr.heap.size 0 _ _ q1
        simp only [List.getElem?_toArray, List.getElem?_cons_zero, List.getElem?_cons_succ] at c0 c1
        have hb3 := (hb.alloc hzb (.cells #[.int .i32 x, .int .u32 (y : Int)] 83)).trans (hb2.mono (by simp; omega))
        have hr2 := RowC.ext (World.ownsRow.alloc hr (.cells #[.int .i32 x, .int .u32 (y : Int)] 83)) hb2
        have hr3 : RowC 83 (w2.setCell ⟨wr.heap.size, 0, none⟩ (.int .i32 0)) w.heap.size _ (viewL o (L.take k)) := RowC.mod hr2 (Mod.setCell w2 ⟨wr.heap.size, 0, none⟩ (.int .i32 0)) (fun i hi h => by
          have h2 := (World.ownsRow.lt hr i hi).2
          have h3 : i = wr.heap.size := h
          omega)
        have hb3 := hb3.setCell (p := ⟨wr.heap.size, 0, none⟩) (by simp; omega) (.int .i32 0)
        have hz3 := hb3.size
        have hsn := Sl.cell_new (w2.setCell ⟨wr.heap.size, 0, none⟩ (.int .i32 0)) (0, y) 83
        rw [show (w2.setCell ⟨wr.heap.size, 0, none⟩ (.int .i32 0)).heap.size = w2.heap.size by simp [World.setCell]] at hsn
        clear hb2 q0 hH
        go_wp2_with ((with_reducible refine at_ca 22 _ ?_); refine wpList_appC _ Try.underlying42 cellR_info rfl (.tmp 19) (.tmp 21) rfl w.heap.size _ (viewL o (L.take k)) rfl (World.ownsRow.alloc hr3 _) _ (some ⟨_, 0, none⟩) 1 1 [(0, y)] rfl hsn rfl (by rw [HL.out]; omega) (hb3.alloc hz3 _).size ?_; intro v' w4 hrow hmod hat)
        have hb4 := (hb3.alloc hz3 _).trans (hmod.below_own (B := w.heap.size) (hb3.alloc hz3 _).size (fun i h => (World.ownsRow.lt hr3 i h).1))
        go_roundw
        case rel => exact ⟨k + 1, by omega, by go_num, by rw [HV.out, HS.out]; exact hrow, hb4⟩
        case measure => simp [intOf]; omega
    · obtain rfl : k = L.length := by omega
      rw [List.take_length] at hr
      go_wp2_with fail
      go_ret
      exact ⟨_, rfl, hr, hb⟩
end Go.Proofs.Ytioahddobogpjaa
/- The reference's Put and Same over lists of cells. Conditions: those said. -/
namespace Go.Proofs.Ytioahddobogpjaa
open Go.RowKit

set_option maxHeartbeats 4000000 in
set_option maxRecDepth 20000 in
theorem RefSame_calls (A A' : Option Addr) (L M : List (Int × Nat)) (n c b n' c' b' : Nat) (w : World) (hs : Sl w b A (cv L)) (hs' : Sl w b' A' (cv M)) (hn : L.length = n) (hn' : M.length = n') (hm : n ≤ 1000000) (hm' : n' ≤ 1000000) :
    Calls Try.prog 36 #[.slice A n c, .slice A' n' c'] w fun e w' => e = .returned (.bool (decide (L = M))) ∧ Below w.heap.size w w' := by
  subst hn hn'
  obtain ⟨r, hr⟩ : ∃ r, r = decide (L = M) := ⟨_, rfl⟩
  rw [← hr]
  have HR := Lib.hid hr
  clear hr
  by_cases hl : L.length = M.length
  · have hne : ((L.length : Int) != (M.length : Int)) = false := by simp [hl]
    have HL := Lib.hid hl
    clear hl
    go_enter Try.func36, Try.ntmps36
    go_wp2_with fail
    clear hne
    go_loopw [5, 13] (fun v i wr => ∃ k : Nat, k ≤ L.length ∧ i = .int .i64 k ∧ Hid (L.take k = M.take k) ∧ Below w.heap.size w wr) (fun _ i _ => L.length - (intOf i).toNat)
    case atStart => exact ⟨0, Nat.zero_le _, rfl, Lib.hid rfl, Below.refl _ _⟩
    case round =>
      obtain ⟨k, hk, rfl, HT, hb⟩ := hrel
      rename_i v0 _
      by_cases hlt : k < L.length
      · have hlt' : k < M.length := by have := HL.out; omega
        obtain ⟨off, rfl, h0, h1⟩ := sl_off (Sl.ext hs hb) hlt
        obtain ⟨off', rfl, h0', h1'⟩ := sl_off (Sl.ext hs' hb) hlt'
        have hA := Lib.hid (take_next hlt)
        have hB := Lib.hid (take_next hlt')
        obtain ⟨p, hp⟩ : ∃ p, p = L[k] := ⟨_, rfl⟩
        obtain ⟨q, hq⟩ : ∃ q, q = M[k] := ⟨_, rfl⟩
        rw [← hp] at h0 h1 hA
        rw [← hq] at h0' h1' hB
        obtain ⟨x, y⟩ := p
        obtain ⟨x', y'⟩ := q
        have hp := Lib.hid hp
        have hq := Lib.hid hq
        have ej : (k : Int) < (L.length : Int) := by omega
        have ej' : (k : Int) < (M.length : Int) := by omega
        simp only at h0 h1 h0' h1'
        by_cases e1 : x = x'
        · subst e1
          by_cases e2 : y = y'
          · subst e2
            go_wp2_with fail
            go_quiet (fail)
            go_wp2_with fail
            go_roundw
            case rel => exact ⟨k + 1, by omega, by go_num, Lib.hid (by rw [hA.out, hB.out, HT.out]), below_drewN hb _⟩
            case measure => simp [intOf]; omega
          · have e3 : ((y : Int) == (y' : Int)) = false := by simp; omega
            have e4 : ((y : Int) = (y' : Int)) = False := by simp; omega
            go_wp2_with fail
            go_quiet (fail)
            go_wp2_with fail
            go_ret
            refine ⟨?_, below_drewN hb _⟩
            rw [HR.out, decide_eq_false (fun h => by subst h; have := hp.out.trans hq.out.symm; injection this with _ h2; exact e2 h2)]
            rfl
        · have e3 : (x == x') = false := by simp; omega
          go_wp2_with fail
          go_quiet (fail)
          go_wp2_with fail
          go_ret
          refine ⟨?_, below_drewN hb _⟩
          rw [HR.out, decide_eq_false (fun h => by subst h; have := hp.out.trans hq.out.symm; injection this with h2 _; exact e1 h2)]
          rfl
      · obtain rfl : k = L.length := by omega
        go_wp2_with fail
        go_ret
        refine ⟨?_, hb⟩
        have h1 := HT.out
        rw [List.take_length, HL.out, List.take_length] at h1
        rw [HR.out, decide_eq_true h1]
        rfl
  · have hne : ((L.length : Int) != (M.length : Int)) = true := by simp; omega
    go_enter Try.func36, Try.ntmps36
    go_wp2_with fail
    go_ret
    exact ⟨by rw [HR.out, decide_eq_false (fun h => hl (by rw [h]))]; rfl, Below.refl _ _⟩
end Go.Proofs.Ytioahddobogpjaa
/- Loads and tests of whole boards, as steps of a region that draws its order. Conditions: those said. -/
namespace Go.Proofs.Ytioahddobogpjaa
open Go.RowKit

theorem yieldsIf_ld {ops : Array Oper} {S : World → Prop} {op : Oper} {a : Act} (hw : Region.wanted op (yielded ops a.tmps) = true) (x : Operand) (ho : op.op = .load 32 x)
    (b : Nat) (hx : a.eval x = .pointer (some ⟨b, 0, none⟩)) (L : List (Int × Nat)) (hS : ∀ w, S w → BoxL w b L) : YieldsIf Try.prog ops S op (.agg (bdL L)) a :=
  yieldsIf_load_bd hw x ho b hx _ _ _ hS
theorem yieldsIf_eql {ops : Array Oper} {S : World → Prop} {op : Oper} {a : Act} (hw : Region.wanted op (yielded ops a.tmps) = true) (x y : Operand) (ho : op.op = .binOp .eql 32 x y 32)
    (L M : List (Int × Nat)) (hx : a.eval x = .agg (bdL L)) (hy : a.eval y = .agg (bdL M)) (hL : L.length ≤ 48) (d : Bool) (hd : d = decide (L = M)) : YieldsIf Try.prog ops S op (.bool d) a :=
  .inl ⟨hw, fun w _ => by
    have e : d = true ↔ bdA (bdF L) (bdG L) L.length = bdA (bdF M) (bdG M) M.length := by
      rw [hd, decide_eq_true_iff]
      exact (bdL_inj hL).symm
    unfold execOp
    simp only [ho, hx, hy, bdL, Sem.run_bind, eq_guard, Result.andThen_ok, run_eql_bd w _ _ _ _ _ _ d e, Sem.run_pure]⟩
theorem yieldsIf_neq {ops : Array Oper} {S : World → Prop} {op : Oper} {a : Act} (hw : Region.wanted op (yielded ops a.tmps) = true) (x y : Operand) (ho : op.op = .binOp .neq 32 x y 32)
    (L M : List (Int × Nat)) (hx : a.eval x = .agg (bdL L)) (hy : a.eval y = .agg (bdL M)) (hL : L.length ≤ 48) (d : Bool) (hd : d = decide (L = M)) : YieldsIf Try.prog ops S op (.bool (!d)) a :=
  .inl ⟨hw, fun w _ => by
    have e : d = true ↔ bdA (bdF L) (bdG L) L.length = bdA (bdF M) (bdG M) M.length := by
      rw [hd, decide_eq_true_iff]
      exact (bdL_inj hL).symm
    unfold execOp
    simp only [ho, hx, hy, bdL, Sem.run_bind, eq_guard, Result.andThen_ok, run_neq_bd w _ _ _ _ _ _ d e, Sem.run_pure]⟩
end Go.Proofs.Ytioahddobogpjaa
/- The reference's Bytes, Hash, Labels of cells; Alike. Conditions: those said. -/
namespace Go.Proofs.Ytioahddobogpjaa
open Go.RowKit

theorem below_undrew2 {a w : World} (h : Below a.drew.heap.size a.drew w) : Below a.heap.size a w := ⟨h.os, h.tape, h.output, h.size, h.block⟩
set_option maxHeartbeats 4000000 in
set_option maxRecDepth 20000 in
theorem RefBytes_calls (x : Int) (y : Nat) (w : World) (hy : y < 4294967296) :
    Calls Try.prog 51 #[.agg #[.int .i32 x, .int .u32 (y : Int)]] w fun e w' => ∃ v, e = .returned v ∧ Row w' w.heap.size v (cellB (x, y)) ∧ Below w.heap.size w w' := by
  have hb := below_alloc1 w (.cells #[.int .i32 x, .int .u32 (y : Int)] 83)
  have q0 : BoxV (w.alloc (.cells #[.int .i32 x, .int .u32 (y : Int)] 83)) w.heap.size x y := heap_alloc_new w _
  have hw := uN_wrap x
  have hw2 := uN_mod x
  have hul := uN_lt x
  obtain ⟨u, hu⟩ : ∃ u, u = uN x := ⟨_, rfl⟩
  have hB : [low u 4, low y 4].flatten = cellB (x, y) := by rw [hu]; simp [cellB]
  rw [← hu] at hw hw2 hul
  have HB := Lib.hid hB
  have e1 : IntKind.u64.wrap (u : Int) = (u : Int) := IntWalk.u64_in _ (by omega)
  have e2 : IntKind.u64.wrap (y : Int) = (y : Int) := IntWalk.u64_in _ (by omega)
  clear hu hB
  go_enter Try.func51, Try.ntmps51
  go_wp2_with fail
  refine wp_region_held_drew (S := fun w' => BoxV w' w.heap.size x y) (by kernel_rfl) ?_ (fun hHeld => ?_)
  · exact q0
  refine wpAnyH_take (i := 0) (v := ?mv0) (by simp only [List.getElem?_toArray, List.getElem?_cons_zero]; rfl) (by kernel_rfl) (by kernel_rfl) (by kernel_rfl) (by exact fun _ _ _ h => h) (Or.inl ⟨by rfl, ?my0⟩) hHeld ?_
  case my0 => (intro w0 hSw; (try dsimp only at hSw); have hz0 := cell_of_row w0 w.heap.size 0 _ _ _ hSw; have hz1 := cell_of_row w0 w.heap.size 1 _ _ _ hSw; simp only [List.getElem?_toArray, List.getElem?_cons_zero, List.getElem?_cons_succ] at hz0 hz1; clear hSw; go_simp; try (with_reducible rfl))
  try simp only [Act.put, List.setIfInBounds_toArray, List.set_cons_zero, List.set_cons_succ]
  refine wpAnyH_take (i := 1) (v := ?mv1) (by simp only [List.getElem?_toArray, List.getElem?_cons_succ, List.getElem?_cons_zero]; rfl) (by kernel_rfl) (by kernel_rfl) (by kernel_rfl) (by exact fun _ _ _ h => h) (Or.inl ⟨by rfl, ?my1⟩) hHeld ?_
  case my1 => (intro w0 hSw; (try dsimp only at hSw); have hz0 := cell_of_row w0 w.heap.size 0 _ _ _ hSw; have hz1 := cell_of_row w0 w.heap.size 1 _ _ _ hSw; simp only [List.getElem?_toArray, List.getElem?_cons_zero, List.getElem?_cons_succ] at hz0 hz1; clear hSw; go_simp; try (with_reducible rfl))
  try simp only [Act.put, List.setIfInBounds_toArray, List.set_cons_zero, List.set_cons_succ]
  refine wpAnyH_take (i := 2) (v := ?mv2) (by simp only [List.getElem?_toArray, List.getElem?_cons_succ, List.getElem?_cons_zero]; rfl) (by kernel_rfl) (by kernel_rfl) (by kernel_rfl) (by exact fun _ _ _ h => h) (Or.inl ⟨by rfl, ?my2⟩) hHeld ?_
  case my2 => (intro w0 hSw; (try dsimp only at hSw); have hz0 := cell_of_row w0 w.heap.size 0 _ _ _ hSw; have hz1 := cell_of_row w0 w.heap.size 1 _ _ _ hSw; simp only [List.getElem?_toArray, List.getElem?_cons_zero, List.getElem?_cons_succ] at hz0 hz1; clear hSw; go_simp; try (with_reducible rfl))
  try simp only [Act.put, List.setIfInBounds_toArray, List.set_cons_zero, List.set_cons_succ]
  refine wpAnyH_take (i := 3) (v := ?mv3) (by simp only [List.getElem?_toArray, List.getElem?_cons_succ, List.getElem?_cons_zero]; rfl) (by kernel_rfl) (by kernel_rfl) (by kernel_rfl) (by exact fun _ _ _ h => h) (Or.inl ⟨by rfl, ?my3⟩) hHeld ?_
  case my3 => (intro w0 hSw; (try dsimp only at hSw); have hz0 := cell_of_row w0 w.heap.size 0 _ _ _ hSw; have hz1 := cell_of_row w0 w.heap.size 1 _ _ _ hSw; simp only [List.getElem?_toArray, List.getElem?_cons_zero, List.getElem?_cons_succ] at hz0 hz1; clear hSw; go_simp; try (with_reducible rfl))
  try simp only [Act.put, List.setIfInBounds_toArray, List.set_cons_zero, List.set_cons_succ]
  refine wpAnyH_take (i := 5) (v := ?mv5) (by simp only [List.getElem?_toArray, List.getElem?_cons_succ, List.getElem?_cons_zero]; rfl) (by kernel_rfl) (by kernel_rfl) (by kernel_rfl) (by exact fun _ _ _ h => h) (Or.inl ⟨by rfl, ?my5⟩) hHeld ?_
  case my5 => (intro w0 hSw; (try dsimp only at hSw); have hz0 := cell_of_row w0 w.heap.size 0 _ _ _ hSw; have hz1 := cell_of_row w0 w.heap.size 1 _ _ _ hSw; simp only [List.getElem?_toArray, List.getElem?_cons_zero, List.getElem?_cons_succ] at hz0 hz1; clear hSw; go_simp; try (with_reducible rfl))
  try simp only [Act.put, List.setIfInBounds_toArray, List.set_cons_zero, List.set_cons_succ]
  refine wpAnyH_take (i := 6) (v := ?mv6) (by simp only [List.getElem?_toArray, List.getElem?_cons_succ, List.getElem?_cons_zero]; rfl) (by kernel_rfl) (by kernel_rfl) (by kernel_rfl) (by exact fun _ _ _ h => h) (Or.inl ⟨by rfl, ?my6⟩) hHeld ?_
  case my6 => (intro w0 hSw; (try dsimp only at hSw); have hz0 := cell_of_row w0 w.heap.size 0 _ _ _ hSw; have hz1 := cell_of_row w0 w.heap.size 1 _ _ _ hSw; simp only [List.getElem?_toArray, List.getElem?_cons_zero, List.getElem?_cons_succ] at hz0 hz1; clear hSw; go_simp; try (with_reducible rfl))
  try simp only [Act.put, List.setIfInBounds_toArray, List.set_cons_zero, List.set_cons_succ]
  refine wpAnyH_take (i := 7) (v := ?mv7) (by simp only [List.getElem?_toArray, List.getElem?_cons_succ, List.getElem?_cons_zero]; rfl) (by kernel_rfl) (by kernel_rfl) (by kernel_rfl) (by exact fun _ _ _ h => h) (Or.inl ⟨by rfl, ?my7⟩) hHeld ?_
  case my7 => (intro w0 hSw; (try dsimp only at hSw); have hz0 := cell_of_row w0 w.heap.size 0 _ _ _ hSw; have hz1 := cell_of_row w0 w.heap.size 1 _ _ _ hSw; simp only [List.getElem?_toArray, List.getElem?_cons_zero, List.getElem?_cons_succ] at hz0 hz1; clear hSw; go_simp; try (with_reducible rfl))
  try simp only [Act.put, List.setIfInBounds_toArray, List.set_cons_zero, List.set_cons_succ]
  refine wpAnyH_ready (rs := [4]) (by kernel_rfl) (by simp) ?_
  refine AllReadyH.cons (by simp only [List.getElem?_toArray, List.getElem?_cons_succ, List.getElem?_cons_zero]; rfl) (fun KK hKK => ?_) AllReadyH.nil
  go_simp
  refine (Low_calls u 4 _ (by omega) (by omega) (by omega)).mono ?_
  rintro e w1 ⟨v1, rfl, hrow1, h1⟩
  have h1 := below_undrew2 h1
  have q1 : BoxV w1 w.heap.size x y := (h1.block _ (by simp)).trans q0
  have hb1 := hb.trans (h1.mono hb.size)
  have hz1 := hb1.size
  obtain ⟨A1, c1, b1, rfl, _, _, _, _, hs1, _⟩ := hrow1.sl
  clear hrow1 h1
  go_wp2_with fail
  refine hKK.out _ _ ?_ (fun hHeld => ?_)
  · exact q1
  clear hKK KK
  try simp only [Act.put, List.setIfInBounds_toArray, List.set_cons_zero, List.set_cons_succ]
  refine wpAnyH_ready (rs := [8]) (by kernel_rfl) (by simp) ?_
  refine AllReadyH.cons (by simp only [List.getElem?_toArray, List.getElem?_cons_succ, List.getElem?_cons_zero]; rfl) (fun KK hKK => ?_) AllReadyH.nil
  go_simp
  refine (Low_calls y 4 _ (by omega) (by omega) (by omega)).mono ?_
  rintro e w2 ⟨v2, rfl, hrow2, h2⟩
  have q2 : BoxV w2 w.heap.size x y := (h2.block _ (Array.getElem?_eq_some_iff.1 q1).1).trans q1
  have hb2 := hb1.trans (h2.mono hz1)
  have hz2 := hb2.size
  have hs1 := Sl.ext hs1 h2
  obtain ⟨A2, c2, b2, rfl, _, _, _, _, hs2, _⟩ := hrow2.sl
  clear hrow2 h2
  go_wp2_with fail
  refine hKK.out _ _ ?_ (fun hHeld => ?_)
  · exact q2
  clear hKK KK
  try simp only [Act.put, List.setIfInBounds_toArray, List.set_cons_zero, List.set_cons_succ]
  refine wpAnyH_ready (rs := [9]) (by kernel_rfl) (by simp) ?_
  refine AllReadyH.cons (by simp only [List.getElem?_toArray, List.getElem?_cons_succ, List.getElem?_cons_zero]; rfl) (fun KK hKK => ?_) AllReadyH.nil
  go_simp
  have h3 := below_alloc1 w2 (.cells #[.slice A1 4 c1, .slice A2 4 c2] 36)
  have q3 : BoxV (w2.alloc (.cells #[.slice A1 4 c1, .slice A2 4 c2] 36)) w.heap.size x y := (h3.block _ (Array.getElem?_eq_some_iff.1 q2).1).trans q2
  have hs1 := Sl.ext hs1 h3
  have hs2 := Sl.ext hs2 h3
  have hb3 := hb2.trans (h3.mono hz2)
  have hz3 := hb3.size
  have hsl := Sl.cells_new w2 #[.slice A1 4 c1, .slice A2 4 c2] 36
  go_wp2_with fail
  refine hKK.out _ _ ?_ (fun hHeld => ?_)
  · exact q3
  clear hKK KK
  try simp only [Act.put, List.setIfInBounds_toArray, List.set_cons_zero, List.set_cons_succ]
  refine wpAnyH_ready (rs := [10]) (by kernel_rfl) (by simp) ?_
  refine AllReadyH.cons (by simp only [List.getElem?_toArray, List.getElem?_cons_succ, List.getElem?_cons_zero]; rfl) (fun KK hKK => ?_) AllReadyH.nil
  go_simp
  refine (Join_calls _ [.slice A1 4 c1, .slice A2 4 c2] [low u 4, low y 4] 2 2 w2.heap.size _ hsl (Bss.cons hs1 (by simp) (Bss.cons hs2 (by simp) (Bss.nil_ _))) rfl (by simp [maxLen]) (by simp)).mono ?_
  rintro e w4 ⟨v4, rfl, hrow4, h4⟩
  have q4 : BoxV w4 w.heap.size x y := (h4.block _ (Array.getElem?_eq_some_iff.1 q3).1).trans q3
  have hb4 := hb3.trans (h4.mono hz3)
  have hrow4 := owns_low hrow4 hz3
  obtain ⟨A4, c4, b4, hv4, _⟩ := Row.sl hrow4
  subst hv4
  go_wp2_with fail
  refine hKK.out _ _ ?_ (fun hHeld => ?_)
  · exact q4
  clear hKK KK
  try simp only [Act.put, List.setIfInBounds_toArray, List.set_cons_zero, List.set_cons_succ]
  refine wpAnyH_take (i := 11) (v := ?mv11) (by simp only [List.getElem?_toArray, List.getElem?_cons_succ, List.getElem?_cons_zero]; rfl) (by kernel_rfl) (by kernel_rfl) (by kernel_rfl) (by exact fun _ _ _ h => h) (Or.inl ⟨by rfl, ?my11⟩) hHeld ?_
  case my11 => (intro w0 hSw; (try dsimp only at hSw); have hz0 := cell_of_row w0 w.heap.size 0 _ _ _ hSw; have hz1 := cell_of_row w0 w.heap.size 1 _ _ _ hSw; simp only [List.getElem?_toArray, List.getElem?_cons_zero, List.getElem?_cons_succ] at hz0 hz1; clear hSw; go_simp; try (with_reducible rfl))
  try simp only [Act.put, List.setIfInBounds_toArray, List.set_cons_zero, List.set_cons_succ]
  refine wpAnyH_done (by kernel_rfl) ?_ _
  go_wp2_with fail
  go_ret
  exact ⟨_, rfl, Row.cast hrow4 HB.out, hb4⟩
set_option maxHeartbeats 4000000 in
set_option maxRecDepth 20000 in
theorem RefHash_calls (A : Option Addr) (L : List (Int × Nat)) (n c b : Nat) (w : World) (hs : Sl w b A (cv L)) (hn : L.length = n) (hm : n ≤ 1000000) (hok : okC L) :
    Calls Try.prog 38 #[.slice A n c] w fun e w' => e = .returned (.int .u32 (hashL L : Nat)) ∧ Below w.heap.size w w' := by
  subst hn
  have HOK := Lib.hid hok
  have HLN := Lib.hid (cellsB_len L)
  clear hok
  go_enter Try.func38, Try.ntmps38
  go_wp2_with fail
  go_loopw [3, 5, 8] (fun out p i wr => ∃ k : Nat, k ≤ L.length ∧ i = .int .i64 k ∧ Row wr w.heap.size out (cellsB (L.take k)) ∧ Below w.heap.size w wr) (fun _ _ i _ => L.length - (intOf i).toNat)
  case atStart => exact ⟨0, Nat.zero_le _, rfl, Row.nil_ _ _, Below.refl _ _⟩
  case round =>
    obtain ⟨k, hk, rfl, hr, hb⟩ := hrel
    rename_i v0 _ _
    by_cases hlt : k < L.length
    · obtain ⟨off, rfl, h0, h1⟩ := sl_off (Sl.ext hs hb) hlt
      have hy := (okC_get HOK.out hlt).2
      have hsn : cellsB (L.take (k + 1)) = cellsB (L.take k) ++ cellB L[k] := by rw [take_snoc1 hlt, cellsB_snoc]
      have hpl : (cellsB (L.take k)).length ≤ 10000000 := by rw [cellsB_len, List.length_take]; omega
      obtain ⟨p, hp⟩ : ∃ p, p = L[k] := ⟨_, rfl⟩
      rw [← hp] at h0 h1 hy hsn
      obtain ⟨x, y⟩ := p
      simp only at h0 h1 hy
      have HS := Lib.hid hsn
      have ej : (k : Int) < (L.length : Int) := by omega
      have hzb := hb.size
      have e2 : IntKind.u64.wrap (y : Int) = (y : Int) := IntWalk.u64_in _ (by omega)
      clear hp hsn
      have hb2 := hb.alloc hzb (.cells #[.int .i32 x, .int .u32 (y : Int)] 83)
      have hr2 := Row.ext hr (below_alloc1 wr (.cells #[.int .i32 x, .int .u32 (y : Int)] 83))
      have hz2 := hb2.size
      go_wp2_with fail
      refine (RefBytes_calls x y _ hy).mono ?_
      rintro e w2 ⟨v2, rfl, hrow2, h2⟩
      have hr3 := Row.ext hr2 h2
      have hb3 := hb2.trans (h2.mono hz2)
      have hz3 := hb3.size
      obtain ⟨A2, c2, b2, rfl, _, _, _, _, hs2, _⟩ := hrow2.sl
      clear hrow2 h2
      go_wp2_with ((with_reducible refine at_ca 15 _ ?_); refine wpList_app _ rfl (.tmp 12) (.tmp 14) rfl w.heap.size _ (cellsB (L.take k)) rfl hr3 b2 A2 _ c2 _ rfl hs2 rfl (by simp [cellB]; omega) hz3 ?_; intro v' w4 hrow hmod hat)
      have hb4 := hb3.trans (hmod.below_own hz3 (fun i h => (World.ownsRow.lt hr3 i h).1))
      go_roundw
      case rel => exact ⟨k + 1, by omega, by go_num, by rw [HS.out]; exact hrow, hb4⟩
      case measure => simp [intOf]; omega
    · obtain rfl : k = L.length := by omega
      rw [List.take_length] at hr
      obtain ⟨A2, c2, b2, rfl, _, _, _, _, hs2, _⟩ := hr.sl
      go_wp2_with fail
      refine (RefSum_calls A2 (cellsB L) (cellsB L).length c2 b2 _ hs2 rfl (by rw [HLN.out]; simp only [maxLen]; omega)).mono ?_
      rintro e w3 ⟨rfl, rfl⟩
      go_wp2_with fail
      go_ret
      exact ⟨rfl, hb⟩
end Go.Proofs.Ytioahddobogpjaa
/- The pen's Byte. Condition: the sum of the lengths fits. -/
namespace Go.Proofs.Ytioahddobogpjaa
open Go.RowKit

set_option maxHeartbeats 400000 in
theorem PenByte_calls (g : Nat) (r : Option Nat) (l : List UInt8) (n : Nat) (w : World) (hp : PenAt w g r l) (hn : n < 256) (hlen : l.length + 1 ≤ 140737488355328) :
    Calls Try.prog 42 #[.pointer (some ⟨g, 0, none⟩), .int .u8 n] w (Wrote g r (l ++ low n 1) w) := by
  have hb := Lib.hid (bv_low_one n hn)
  go_enter Try.func42, Try.ntmps42
  go_wp2_with fail
  have hx : Below w.heap.size w (w.alloc (.cells #[.int .u8 (n : Int)] 5)) := (Below.refl _ _).alloc (Nat.le_refl _) _
  refine (add_calls g r l _ (low n 1) 1 1 w.heap.size _ (hp.ext hx) (by unfold Bs; rw [hb.out]; exact Sl.cells_new w _ _) (by simp) hlen).mono ?_
  rintro e w1 ⟨rfl, r', hp', hst⟩
  go_wp2
  go_ret
  exact ⟨rfl, r', hp', PenStep.below hx hst⟩
end Go.Proofs.Ytioahddobogpjaa
/- A delta as it lies: a tick, a sum, its places, its cells; and the plain words of Of: the places that were touched, below k. Conditions: those said. -/
namespace Go.Proofs.Ytioahddobogpjaa
open Go.RowKit

/-- Block b holds a delta. -/
def BoxD (w : World) (b : Nat) (t h : Nat) (vp vc : Value) : Prop := w.heap[b]? = some (.cells #[.int .u32 (t : Int), .int .u32 (h : Int), vp, vc] 38 (0, 0))
namespace BoxD
variable {w w' : World} {b t h : Nat} {vp vc : Value}
theorem new_ (w : World) (t h : Nat) (vp vc : Value) : BoxD (w.alloc (.cells #[.int .u32 (t : Int), .int .u32 (h : Int), vp, vc] 38)) w.heap.size t h vp vc := heap_alloc_new w _
theorem lt (q : BoxD w b t h vp vc) : b < w.heap.size := (Array.getElem?_eq_some_iff.1 q).1
theorem c0 (q : BoxD w b t h vp vc) : w.cell? ⟨b, 0, none⟩ = some (.int .u32 (t : Int)) := by rw [cell_of_row w b 0 _ _ _ q]; rfl
theorem c1 (q : BoxD w b t h vp vc) : w.cell? ⟨b, 1, none⟩ = some (.int .u32 (h : Int)) := by rw [cell_of_row w b 1 _ _ _ q]; rfl
theorem c2 (q : BoxD w b t h vp vc) : w.cell? ⟨b, 2, none⟩ = some vp := by rw [cell_of_row w b 2 _ _ _ q]; rfl
theorem c3 (q : BoxD w b t h vp vc) : w.cell? ⟨b, 3, none⟩ = some vc := by rw [cell_of_row w b 3 _ _ _ q]; rfl
theorem fr (q : BoxD w b t h vp vc) (j : Nat) : w.frozen? ⟨b, j, none⟩ = false := frozen_of_row w b j _ _ q
theorem ext (q : BoxD w b t h vp vc) (hb : Below w.heap.size w w') : BoxD w' b t h vp vc := (hb.block b q.lt).trans q
theorem alloc (q : BoxD w b t h vp vc) (o : Obj) : BoxD (w.alloc o) b t h vp vc := (Below.heap_alloc w o b q.lt).trans q
theorem mod {S : Nat → Prop} (q : BoxD w b t h vp vc) (hm : Mod S w w') (hs : ¬ S b) : BoxD w' b t h vp vc := (hm.block b q.lt hs).trans q
theorem set1 (q : BoxD w b t h vp vc) (u : Nat) : BoxD (w.setCell ⟨b, 1, none⟩ (.int .u32 (u : Int))) b t u vp vc := heap_setCell_same w b 1 _ _ _ q
theorem set2 (q : BoxD w b t h vp vc) (u : Value) : BoxD (w.setCell ⟨b, 2, none⟩ u) b t h u vc := heap_setCell_same w b 2 _ _ _ q
theorem set3 (q : BoxD w b t h vp vc) (u : Value) : BoxD (w.setCell ⟨b, 3, none⟩ u) b t h vp u := heap_setCell_same w b 3 _ _ _ q
theorem other (q : BoxD w b t h vp vc) {p : Addr} (hp : b ≠ p.block) (u : Value) : BoxD (w.setCell p u) b t h vp vc := (heap_setCell_other w p b u hp).trans q
end BoxD
/-- A row's block is no block of another type. -/
theorem own_ne {w : World} {B n sz : Nat} {e t : TypeId} {v : Value} {xs : List Value} (hr : w.ownsRow B e sz v n xs) {g : Nat} {cs : Array Value} {fr : Nat × Nat} (hg : w.heap[g]? = some (.cells cs t fr)) (ht : t ≠ e) : v.ownBlock ≠ some g := by
  intro hv
  rcases hr.2 with ⟨rfl, _⟩ | ⟨g', cap, cur, rfl, _, hh, _⟩
  · simp [Value.ownBlock] at hv
  · have : g' = g := by simpa [Value.ownBlock] using hv
    subst this
    rw [hh] at hg
    injection hg with hg
    injection hg with _ h2 _
    exact ht h2.symm
/-- The places below k that were touched. -/
def placesTo (t k : Nat) : List Nat := (List.range k).filter fun i => t.testBit i
def placesB (t k : Nat) : List UInt8 := (placesTo t k).map UInt8.ofNat
/-- The cells there. -/
def cellsTo (V : List (Int × Nat)) (t k : Nat) : List (Int × Nat) := (placesTo t k).map fun i => V.getD i (0, 0)
theorem placesTo_hit {t k : Nat} (h : t.testBit k = true) : placesTo t (k + 1) = placesTo t k ++ [k] := by simp [placesTo, List.range_succ, List.filter_append, h]
theorem placesTo_miss {t k : Nat} (h : t.testBit k = false) : placesTo t (k + 1) = placesTo t k := by simp [placesTo, List.range_succ, List.filter_append, h]
theorem placesB_hit {t k : Nat} (h : t.testBit k = true) : placesB t (k + 1) = placesB t k ++ [UInt8.ofNat k] := by simp [placesB, placesTo_hit h]
theorem placesB_miss {t k : Nat} (h : t.testBit k = false) : placesB t (k + 1) = placesB t k := by simp [placesB, placesTo_miss h]
theorem cellsTo_hit {V : List (Int × Nat)} {t k : Nat} (hk : k < V.length) (h : t.testBit k = true) : cellsTo V t (k + 1) = cellsTo V t k ++ [V[k]] := by simp [cellsTo, placesTo_hit h, List.getD, hk]
theorem cellsTo_miss {V : List (Int × Nat)} {t k : Nat} (h : t.testBit k = false) : cellsTo V t (k + 1) = cellsTo V t k := by simp [cellsTo, placesTo_miss h]
theorem placesTo_len (t k : Nat) : (placesTo t k).length ≤ k := by
  have := List.length_filter_le (fun i => t.testBit i) (List.range k)
  simpa [placesTo] using this
@[simp] theorem placesB_len (t k : Nat) : (placesB t k).length = (placesTo t k).length := by simp [placesB]
@[simp] theorem cellsTo_len (V : List (Int × Nat)) (t k : Nat) : (cellsTo V t k).length = (placesTo t k).length := by simp [cellsTo]
theorem placesTo_mem {t k i : Nat} : i ∈ placesTo t k ↔ i < k ∧ t.testBit i = true := by simp [placesTo]
/-- The bit of a place, as Of asks for it. -/
theorem bit_asked (t k : Nat) (h : t ≤ 18446744073709551615) : (bits .and .u64 ((t : Int) / 2 ^ k) 1 == 1) = t.testBit k := by
  have hd : t / 2 ^ k ≤ 18446744073709551615 := Nat.le_trans (Nat.div_le_self _ _) h
  have e : ((t : Int) / 2 ^ k) = ((t / 2 ^ k : Nat) : Int) := by simp
  have h1 := bits_and_u64_nat (t / 2 ^ k) 1 (by omega) (by omega)
  rw [e]
  rw [show (1 : Int) = ((1 : Nat) : Int) from rfl, h1, Nat.and_one_is_mod, Nat.testBit_eq_decide_div_mod_eq, Bool.eq_iff_iff]
  simp only [beq_iff_eq, decide_eq_true_eq]
  omega
end Go.Proofs.Ytioahddobogpjaa
/- Of: what one is told of a board's touched places. Conditions: a board has 48 cells at most; the cells and the numbers fit. -/
namespace Go.Proofs.Ytioahddobogpjaa
open Go.RowKit

theorem rows_ne {w : World} {B B' n m : Nat} {v v' : Value} {xs ys : List Value} (h : w.ownsRow B 5 1 v n xs) (h' : w.ownsRow B' 29 2 v' m ys) {i : Nat} (hv : v.ownBlock = some i) (hv' : v'.ownBlock = some i) : False := by
  rcases h'.2 with ⟨rfl, _⟩ | ⟨g', cap, cur, rfl, _, hh, _⟩
  · simp [Value.ownBlock] at hv'
  · have e : g' = i := by simpa [Value.ownBlock] using hv'
    subst e
    exact own_ne h hh (by decide) hv
set_option maxHeartbeats 16000000 in
set_option maxRecDepth 40000 in
theorem Of_calls (L : List (Int × Nat)) (t : Nat) (o : Int) (tick : Nat) (w : World) (hL : L.length ≤ 48) (hok : okC L) (ht : t ≤ 18446744073709551615) (_ : tick < 4294967296) :
    Calls Try.prog 11 #[.agg (bdL L), .int .u64 t, .int .i64 o, .int .u32 tick] w fun e w' => ∃ vp vc, e = .returned (.agg #[.int .u32 tick, .int .u32 (hashL (viewL o L) : Nat), vp, vc]) ∧ Row w' w.heap.size vp (placesB t L.length) ∧ RowC 29 w' w.heap.size vc (cellsTo (viewL o L) t L.length) ∧ Below w.heap.size w w' := by
  have hV := fun W => View_calls L o W hL hok
  have hH := fun W => Hash_calls (viewL o L) W (by simp; omega) (okC_view hok o)
  have hC := fun W => Cells_calls (viewL o L) W (by simp; omega)
  obtain ⟨V, hVe⟩ : ∃ V, V = viewL o L := ⟨_, rfl⟩
  have hVl : V.length = L.length := by rw [hVe]; simp
  have hVL : V.length ≤ 48 := by omega
  rw [← hVe] at hV hH hC
  rw [← hVe, ← hVl]
  obtain ⟨H, hHe⟩ : ∃ H, H = hashL V := ⟨_, rfl⟩
  rw [← hHe] at hH ⊢
  have q4 := (BoxL.new_ w L).alloc (.cells #[.int .u32 0, .int .u32 0, .slice none 0 0, .slice none 0 0] 38)
  have r8 : BoxD ((w.alloc (.cells (bdL L) 32)).alloc (.cells #[.int .u32 0, .int .u32 0, .slice none 0 0, .slice none 0 0] 38)) (w.heap.size + 1) 0 0 (.slice none 0 0) (.slice none 0 0) := by
    have := BoxD.new_ (w.alloc (.cells (bdL L) 32)) 0 0 (.slice none 0 0) (.slice none 0 0)
    rwa [show (w.alloc (.cells (bdL L) 32)).heap.size = w.heap.size + 1 by simp] at this
  have hb := below_alloc2 w (.cells (bdL L) 32) (.cells #[.int .u32 0, .int .u32 0, .slice none 0 0, .slice none 0 0] 38)
  clear hVe hVl hHe
  go_enter Try.func11, Try.ntmps11
  go_wp2_with ((with_reducible refine at_ld 32 4 ?_); refine wpList_ld rfl (.tmp 4) rfl w.heap.size rfl L q4 ?_)
  refine (hV _).mono ?_
  rintro e w1 ⟨rfl, hb1⟩
  have q4 := q4.ext hb1
  have r8 := r8.ext hb1
  have hb := hb.trans (hb1.mono hb.size)
  clear hb1
  clear hV
  clear q4
  have r8 := r8.alloc (.cells (bdL V) 32)
  have hb := hb.alloc hb.size (.cells (bdL V) 32)
  have q9 := BoxL.new_ w1 V
  go_wp2_with (first | ((with_reducible refine at_al 32 9 ?_); refine wpList_al rfl rfl (some 9) rfl w1.heap.size rfl ?_) | ((with_reducible refine at_st 32 9 15 ?_); refine wpList_put rfl (.tmp 9) (.tmp 15) rfl rfl V rfl rfl ?_) | ((with_reducible refine at_ld 32 9 ?_); refine wpList_ld rfl (.tmp 9) rfl w1.heap.size rfl V q9 ?_))
  refine (hH _).mono ?_
  rintro e w2 ⟨rfl, hb2⟩
  have r8 := r8.ext hb2
  have q9 := q9.ext hb2
  have hb := hb.trans (hb2.mono hb.size)
  clear hb2
  clear hH
  have z := BoxD.new_ w2 tick H (.slice none 0 0) (.slice none 0 0)
  have hz8 := r8.lt
  have r8 := r8.alloc (.cells #[.int .u32 (tick : Int), .int .u32 (H : Int), .slice none 0 0, .slice none 0 0] 38)
  have q9 := q9.alloc (.cells #[.int .u32 (tick : Int), .int .u32 (H : Int), .slice none 0 0, .slice none 0 0] 38)
  have hb := hb.alloc hb.size (.cells #[.int .u32 (tick : Int), .int .u32 (H : Int), .slice none 0 0, .slice none 0 0] 38)
  go_wp2_with ((with_reducible refine at_ld 32 9 ?_); refine wpList_ld rfl (.tmp 9) rfl w1.heap.size rfl V q9 ?_)
  refine (hC _).mono ?_
  rintro e w3 ⟨v, rfl, hrow, hb3⟩
  have r8 := r8.ext hb3
  have q9 := q9.ext hb3
  have z := z.ext hb3
  have hb := hb.trans (hb3.mono hb.size)
  clear hb3
  clear hC
  obtain ⟨A5, c5, b5, rfl, hx1, hx2, hx3, hx4, hs5, hx5⟩ := hrow.sl
  have hb5 : w2.heap.size < b5 := by have := hx4; simp at this; omega
  clear hrow hx1 hx2 hx3 hx4 hx5
  have hzl := hb.size
  have hzlt := z.lt
  have h8lt := r8.lt
  have hblt : 0 < V.length → b5 < w3.heap.size := fun h => Sl.lt hs5 (by intro h0; have := congrArg List.length h0; rw [cv_length, List.length_nil] at this; omega)
  go_wp2_with fail
  go_loopw [11, 23] (fun q i wr => ∃ (k : Nat) (vp vc : Value), k ≤ V.length ∧ i = .int .i64 k ∧ Row wr w3.heap.size vp (placesB t k) ∧ RowC 29 wr w3.heap.size vc (cellsTo V t k) ∧ w3.heap.size ≤ wr.heap.size ∧ BoxD wr w2.heap.size tick H vp vc ∧ BoxD wr (w.heap.size + 1) 0 0 (.slice none 0 0) (.slice none 0 0) ∧ Sl wr b5 A5 (cv V) ∧ Below w.heap.size w wr) (fun _ i _ => V.length - (intOf i).toNat)
  case atStart => exact ⟨0, _, _, Nat.zero_le _, rfl, Row.nil_ _ _, RowC.nil_ _ _ _, Nat.le_refl _, z, r8, hs5, hb⟩
  case round =>
    clear z r8 hs5 hb
    obtain ⟨k, vp, vc, hk, rfl, hp, hc, hB, z, r8, hs5, hb⟩ := hrel
    by_cases hlt : k < V.length
    · obtain ⟨off, rfl, f0, f1⟩ := sl_off hs5 hlt
      have hbit := bit_asked t k ht
      obtain ⟨d, hd⟩ : ∃ d, d = t.testBit k := ⟨_, rfl⟩
      rw [← hd] at hbit
      have ph := placesB_hit (t := t) (k := k)
      have pm := placesB_miss (t := t) (k := k)
      have ch := cellsTo_hit (t := t) hlt
      have cm := cellsTo_miss (V := V) (t := t) (k := k)
      have hpl := placesTo_len t k
      rw [← hd] at ph pm ch cm
      obtain ⟨pr, hpr⟩ : ∃ pr, pr = V[k] := ⟨_, rfl⟩
      rw [← hpr] at f0 f1 ch
      obtain ⟨X, Y⟩ := pr
      simp only at f0 f1
      have PH := Lib.hid ph
      have PM := Lib.hid pm
      have CH := Lib.hid ch
      have CM := Lib.hid cm
      have ej : (k : Int) < (V.length : Int) := by omega
      have ek : (k : Int) < 64 := by omega
      clear hd hpr ph pm ch cm
      cases d with
      | false =>
        have hx := hb.alloc hb.size (.cells #[.int .i32 X, .int .u32 (Y : Int)] 29)
        have h9 := below_alloc1 wr (.cells #[.int .i32 X, .int .u32 (Y : Int)] 29)
        go_wp2_with fail
        go_roundw
        case rel => exact ⟨k + 1, _, _, by omega, by go_num, by rw [PM.out (by trivial)]; exact Row.ext hp h9, by rw [CM.out (by trivial)]; exact RowC.ext hc h9, by simp; omega, z.ext h9, r8.ext h9, Sl.ext hs5 h9, hx⟩
        case measure => simp [intOf]; omega
      | true =>
        have hx := hb.alloc hb.size (.cells #[.int .i32 X, .int .u32 (Y : Int)] 29)
        have h9 := below_alloc1 wr (.cells #[.int .i32 X, .int .u32 (Y : Int)] 29)
        have hp1 := Row.ext hp h9
        have hc1 := RowC.ext hc h9
        have z1 := z.ext h9
        have r81 := r8.ext h9
        have hs51 := Sl.ext hs5 h9
        have kx := BoxC.new_ wr X Y
        have zc2 := z1.c2
        have zc3 := z1.c3
        have zf2 := z1.fr 2
        have zf3 := z1.fr 3
        have hu : (Value.int .u8 (k : Int)) = .int .u8 ((UInt8.ofNat k).toNat : Int) := by rw [u8_ofNat]; congr 1; omega
        have hkw : IntKind.u8.wrap (k : Int) = (k : Int) := IntWalk.u8_in _ (by omega)
        have hkm : (k : Int) % 256 = (k : Int) := by omega
        have hB1 : w3.heap.size ≤ (wr.alloc (.cells #[.int .i32 X, .int .u32 (Y : Int)] 29)).heap.size := by simp; omega
        have hblt' := hblt (by omega)
        have h10 := below_alloc1 (wr.alloc (.cells #[.int .i32 X, .int .u32 (Y : Int)] 29)) (.cells #[.int .u8 (k : Int)] 5)
        have hp2 := Row.ext hp1 h10
        have hc2 := RowC.ext hc1 h10
        have z2 := z1.ext h10
        have kx2 := kx.ext h10
        have hsb : Sl ((wr.alloc (.cells #[.int .i32 X, .int .u32 (Y : Int)] 29)).alloc (.cells #[.int .u8 (k : Int)] 5)) (wr.heap.size + 1) (some ⟨wr.heap.size + 1, 0, none⟩) (bv [UInt8.ofNat k]) := by
          rw [show bv [UInt8.ofNat k] = [.int .u8 (k : Int)] by rw [hu]; rfl]
          have h11 := Sl.one_new (wr.alloc (.cells #[.int .i32 X, .int .u32 (Y : Int)] 29)) (.int .u8 (k : Int)) 5
          rwa [show (wr.alloc (.cells #[.int .i32 X, .int .u32 (Y : Int)] 29)).heap.size = wr.heap.size + 1 by simp] at h11
        clear hu
        have hplt := World.ownsRow.lt hp
        have hclt := World.ownsRow.lt hc
        go_wp2_with (first | ((with_reducible refine at_ca 38 _ ?_); refine wpList_app _ rfl (.tmp 34) (.tmp 37) rfl w3.heap.size vp (placesB t k) rfl hp2 _ (some ⟨_, 0, none⟩) 1 1 [UInt8.ofNat k] rfl hsb rfl (by simp; omega) (by simp; omega) ?_; intro v7 w7 hrow7 hmod7 hat7; (obtain ⟨A7, c7, b7, hv7, _⟩ := Row.sl hrow7); (obtain ⟨N7, hN7⟩ : ∃ N7, N7 = (placesB t k ++ [UInt8.ofNat k]).length := ⟨_, rfl⟩); (rw [← hN7] at hv7); (have HN7 := Lib.hid hN7); (clear hN7); (subst hv7); (have z7 := z2.mod hmod7 (fun h => by have := (hplt _ h).1; omega)); (have zc2 := z7.c2); (have zf2 := z7.fr 2); (have z7s := z7.set2 (.slice A7 N7 c7)); (have zc3 := z7s.c3); (have zf3 := z7s.fr 3); (have k7 : BoxC w7 wr.heap.size X Y := (hmod7.block _ (by simp; omega) (fun h => by have := (hplt _ h).2; omega)).trans kx2); (have k7s := k7.other (p := ⟨w2.heap.size, 2, none⟩) (by simp; omega) (.slice A7 N7 c7)); (obtain ⟨m0, m1⟩ := And.intro k7s.c0 k7s.c1); (have hc7 := RowC.mod hc2 hmod7 (fun i hi h => rows_ne hp2 hc2 h hi)); (have hc7s := RowC.mod hc7 (Mod.setCell w7 ⟨w2.heap.size, 2, none⟩ (.slice A7 N7 c7)) (fun i hi h => by have h1 := (hclt i hi).1; have h2 : i = w2.heap.size := h; omega)); (have hsn := Sl.cell_new (w7.setCell ⟨w2.heap.size, 2, none⟩ (.slice A7 N7 c7)) (X, Y) 29); (rw [show (w7.setCell ⟨w2.heap.size, 2, none⟩ (.slice A7 N7 c7)).heap.size = w7.heap.size by simp [World.setCell]] at hsn); (have hz7 := hmod7.size)) | ((with_reducible refine at_ca 44 _ ?_); refine wpList_appC _ Try.underlying22 cellB_info rfl (.tmp 41) (.tmp 43) rfl w3.heap.size vc (cellsTo V t k) rfl (World.ownsRow.alloc hc7s _) _ (some ⟨_, 0, none⟩) 1 1 [(X, Y)] rfl hsn rfl (by simp; omega) (by simp [World.setCell] at hz7 ⊢; omega) ?_; intro v8 w8 hrow8 hmod8 hat8; (obtain ⟨A8, c8, b8, hv8, _⟩ := RowC.sl hrow8); (obtain ⟨N8, hN8⟩ : ∃ N8, N8 = (cellsTo V t k ++ [(X, Y)]).length := ⟨_, rfl⟩); (rw [← hN8] at hv8); (have HN8 := Lib.hid hN8); (clear hN8); (subst hv8); (have z8 := (z7s.alloc _).mod hmod8 (fun h => by have := (hclt _ h).1; omega)); (have zc3 := z8.c3); (have zf3 := z8.fr 3)))
        have ra := Row.mod hrow7 (Mod.setCell w7 ⟨w2.heap.size, 2, none⟩ (.slice A7 N7 c7)) (fun i hi h => by have h1 := (World.ownsRow.lt hrow7 i hi).1; have h2 : i = w2.heap.size := h; omega)
        have rb := Row.ext ra (below_alloc1 (w7.setCell ⟨w2.heap.size, 2, none⟩ (.slice A7 N7 c7)) (.cells #[.int .i32 X, .int .u32 (Y : Int)] 29))
        have rc := Row.mod rb hmod8 (fun i hi h => rows_ne rb (World.ownsRow.alloc hc7s (.cells #[.int .i32 X, .int .u32 (Y : Int)] 29)) hi h)
        have rd := Row.mod rc (Mod.setCell w8 ⟨w2.heap.size, 3, none⟩ (.slice A8 N8 c8)) (fun i hi h => by have h1 := (World.ownsRow.lt rc i hi).1; have h2 : i = w2.heap.size := h; omega)
        have re := RowC.mod hrow8 (Mod.setCell w8 ⟨w2.heap.size, 3, none⟩ (.slice A8 N8 c8)) (fun i hi h => by have h1 := (World.ownsRow.lt hrow8 i hi).1; have h2 : i = w2.heap.size := h; omega)
        have g7 := (r81.ext h10).mod hmod7 (fun h => by have := (hplt _ h).1; omega)
        have g8 := (((g7.other (p := ⟨w2.heap.size, 2, none⟩) (Nat.ne_of_lt hz8) (.slice A7 N7 c7)).alloc (.cells #[.int .i32 X, .int .u32 (Y : Int)] 29)).mod hmod8 (fun h => by have := (hclt _ h).1; omega)).other (p := ⟨w2.heap.size, 3, none⟩) (Nat.ne_of_lt hz8) (.slice A8 N8 c8)
        have l7 := Sl.mod (Sl.ext hs51 h10) hmod7 (fun h => by have := (hplt _ h).1; omega)
        have l8 := Sl.setCell (Sl.mod (Sl.alloc (Sl.setCell l7 (p := ⟨w2.heap.size, 2, none⟩) (by simp; omega) (.slice A7 N7 c7)) (.cells #[.int .i32 X, .int .u32 (Y : Int)] 29)) hmod8 (fun h => by have := (hclt _ h).1; omega)) (p := ⟨w2.heap.size, 3, none⟩) (by simp; omega) (.slice A8 N8 c8)
        have b7' := (hx.trans (h10.mono hx.size)).trans (hmod7.below (B := w.heap.size) (by simp; omega) (fun i hi h => by have := (hplt _ h).1; omega))
        have b7s := b7'.setCell (p := ⟨w2.heap.size, 2, none⟩) (by simp; omega) (.slice A7 N7 c7)
        have b7t := b7s.alloc b7s.size (.cells #[.int .i32 X, .int .u32 (Y : Int)] 29)
        have b8' := b7t.trans (hmod8.below (B := w.heap.size) b7t.size (fun i hi h => by have := (hclt _ h).1; omega))
        have b9' := b8'.setCell (p := ⟨w2.heap.size, 3, none⟩) (by simp; omega) (.slice A8 N8 c8)
        have hsz8 := hmod8.size
        go_roundw
        case rel => exact ⟨k + 1, (.slice A7 N7 c7), (.slice A8 N8 c8), by omega, by go_num, by rw [PH.out (by trivial)]; exact rd, by rw [CH.out (by trivial)]; exact re, by simp [World.setCell] at hsz8 hz7 ⊢; omega, z8.set3 _, g8, l8, b9'⟩
        case measure => simp [intOf]; omega
    · obtain rfl : k = V.length := by omega
      obtain ⟨A7, c7, b7, hv7, _⟩ := Row.sl hp
      obtain ⟨A8, c8, b8, hv8, _⟩ := RowC.sl hc
      obtain ⟨N7, hN7⟩ : ∃ N7, N7 = (placesB t V.length).length := ⟨_, rfl⟩
      rw [← hN7] at hv7
      clear hN7
      obtain ⟨N8, hN8⟩ : ∃ N8, N8 = (cellsTo V t V.length).length := ⟨_, rfl⟩
      rw [← hN8] at hv8
      clear hN8
      subst hv7 hv8
      have zc0 := z.c0
      have rc0 := r8.c0
      have rf0 := r8.fr 0
      have zc1 := z.c1
      have rc1 := r8.c1
      have rf1 := r8.fr 1
      have zc2 := z.c2
      have rc2 := r8.c2
      have rf2 := r8.fr 2
      have zc3 := z.c3
      have rc3 := r8.c3
      have rf3 := r8.fr 3
      have hzlt' := hzlt
      go_wp2_with fail
      have q0 := heap_setCell_same wr (w.heap.size + 1) 0 _ _ (.int .u32 (tick : Int)) r8
      have rp0 := Row.mod hp (Mod.setCell wr ⟨w.heap.size + 1, 0, none⟩ (.int .u32 (tick : Int))) (fun i hi h => by have h1 := (World.ownsRow.lt hp i hi).1; have h2 : i = w.heap.size + 1 := h; omega)
      have rc0' := RowC.mod hc (Mod.setCell wr ⟨w.heap.size + 1, 0, none⟩ (.int .u32 (tick : Int))) (fun i hi h => by have h1 := (World.ownsRow.lt hc i hi).1; have h2 : i = w.heap.size + 1 := h; omega)
      have bb0 := hb.setCell (p := ⟨w.heap.size + 1, 0, none⟩) (by simp) (.int .u32 (tick : Int))
      have q1 := heap_setCell_same (wr.setCell ⟨w.heap.size + 1, 0, none⟩ (.int .u32 (tick : Int))) (w.heap.size + 1) 1 _ _ (.int .u32 (H : Int)) q0
      have rp1 := Row.mod rp0 (Mod.setCell (wr.setCell ⟨w.heap.size + 1, 0, none⟩ (.int .u32 (tick : Int))) ⟨w.heap.size + 1, 1, none⟩ (.int .u32 (H : Int))) (fun i hi h => by have h1 := (World.ownsRow.lt hp i hi).1; have h2 : i = w.heap.size + 1 := h; omega)
      have rc1' := RowC.mod rc0' (Mod.setCell (wr.setCell ⟨w.heap.size + 1, 0, none⟩ (.int .u32 (tick : Int))) ⟨w.heap.size + 1, 1, none⟩ (.int .u32 (H : Int))) (fun i hi h => by have h1 := (World.ownsRow.lt hc i hi).1; have h2 : i = w.heap.size + 1 := h; omega)
      have bb1 := bb0.setCell (p := ⟨w.heap.size + 1, 1, none⟩) (by simp) (.int .u32 (H : Int))
      have q2 := heap_setCell_same ((wr.setCell ⟨w.heap.size + 1, 0, none⟩ (.int .u32 (tick : Int))).setCell ⟨w.heap.size + 1, 1, none⟩ (.int .u32 (H : Int))) (w.heap.size + 1) 2 _ _ (.slice A7 N7 c7) q1
      have rp2 := Row.mod rp1 (Mod.setCell ((wr.setCell ⟨w.heap.size + 1, 0, none⟩ (.int .u32 (tick : Int))).setCell ⟨w.heap.size + 1, 1, none⟩ (.int .u32 (H : Int))) ⟨w.heap.size + 1, 2, none⟩ (.slice A7 N7 c7)) (fun i hi h => by have h1 := (World.ownsRow.lt hp i hi).1; have h2 : i = w.heap.size + 1 := h; omega)
      have rc2' := RowC.mod rc1' (Mod.setCell ((wr.setCell ⟨w.heap.size + 1, 0, none⟩ (.int .u32 (tick : Int))).setCell ⟨w.heap.size + 1, 1, none⟩ (.int .u32 (H : Int))) ⟨w.heap.size + 1, 2, none⟩ (.slice A7 N7 c7)) (fun i hi h => by have h1 := (World.ownsRow.lt hc i hi).1; have h2 : i = w.heap.size + 1 := h; omega)
      have bb2 := bb1.setCell (p := ⟨w.heap.size + 1, 2, none⟩) (by simp) (.slice A7 N7 c7)
      have q3 := heap_setCell_same (((wr.setCell ⟨w.heap.size + 1, 0, none⟩ (.int .u32 (tick : Int))).setCell ⟨w.heap.size + 1, 1, none⟩ (.int .u32 (H : Int))).setCell ⟨w.heap.size + 1, 2, none⟩ (.slice A7 N7 c7)) (w.heap.size + 1) 3 _ _ (.slice A8 N8 c8) q2
      have rp3 := Row.mod rp2 (Mod.setCell (((wr.setCell ⟨w.heap.size + 1, 0, none⟩ (.int .u32 (tick : Int))).setCell ⟨w.heap.size + 1, 1, none⟩ (.int .u32 (H : Int))).setCell ⟨w.heap.size + 1, 2, none⟩ (.slice A7 N7 c7)) ⟨w.heap.size + 1, 3, none⟩ (.slice A8 N8 c8)) (fun i hi h => by have h1 := (World.ownsRow.lt hp i hi).1; have h2 : i = w.heap.size + 1 := h; omega)
      have rc3' := RowC.mod rc2' (Mod.setCell (((wr.setCell ⟨w.heap.size + 1, 0, none⟩ (.int .u32 (tick : Int))).setCell ⟨w.heap.size + 1, 1, none⟩ (.int .u32 (H : Int))).setCell ⟨w.heap.size + 1, 2, none⟩ (.slice A7 N7 c7)) ⟨w.heap.size + 1, 3, none⟩ (.slice A8 N8 c8)) (fun i hi h => by have h1 := (World.ownsRow.lt hc i hi).1; have h2 : i = w.heap.size + 1 := h; omega)
      have bb3 := bb2.setCell (p := ⟨w.heap.size + 1, 3, none⟩) (by simp) (.slice A8 N8 c8)
      exact bodyPost_ret (results_cell_row (P := Try.prog) rfl _ _ (w.heap.size + 1) _ #[.int .u32 (tick : Int), .int .u32 (H : Int), .slice A7 N7 c7, .slice A8 N8 c8] (0, 0) _ rfl q3 Try.underlying38 rfl (by kernel_rfl)) rfl ⟨_, _, rfl, owns_low rp3 (by omega), owns_low rc3' (by omega), bb3⟩
end Go.Proofs.Ytioahddobogpjaa
