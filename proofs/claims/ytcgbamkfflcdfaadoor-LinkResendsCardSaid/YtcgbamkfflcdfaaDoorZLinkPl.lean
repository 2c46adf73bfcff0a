/- What comes in order, what comes again: plain facts. No condition. -/
import Derived.Test.YtcgbamkfflcdfaaDoorZLkBase
import Derived.OwnWalk
namespace Go.Proofs.YtcgbamkfflcdfaaDoor
open Go.RowKit
set_option linter.unusedVariables false

theorem Pk.Ok.tight {p : Pk} {m m' : Nat} (h : p.Ok m) (hl : p.ws.length + p.xs.length ≤ m') : p.Ok m' := ⟨h.ep, h.nx, h.cn, h.cb, h.ws, h.xs, hl, h.hd⟩
theorem come_zero : come 0 = 0 := by decide +kernel
theorem note_next {c : Nat} (hc : c < 65536) : noteN c 0 c = some ((c + 1) % 65536, 0) := by
  unfold noteN
  have h0 : toI c c = 0 := (toI_zero hc hc).2 rfl
  have h1 : hasN c 0 c = false := by unfold hasN; rw [h0]; simp
  rw [h1, h0, come_zero]
  simp
/-- What a link holds behind the frame whose turn it is. -/
structure TookN (p p' : Pk) (f : Fr) (r : Bk × List UInt8 × Bool × Nat) : Prop where
  ws : p'.ws = p.ws
  xs : p'.xs = keepX f p.xs
  L : p'.L = { p.L with cn := (p.L.cn + 1) % 65536, cb := 0, lv := r.1.leaving, ow := true }
  hd : p'.hd = r.1.held
theorem take_next {p : Pk} {f : Fr} (hc : p.L.cn < 65536) (hb : p.L.cb = 0) (hs : f.seq = p.L.cn) (ha : f.alone = false) : TookN p (takeP p f).1 f (putB ⟨p.hd, p.L.lv⟩ ⟨f.first, f.last, f.data⟩) ∧ (takeP p f).2 = (if (putB ⟨p.hd, p.L.lv⟩ ⟨f.first, f.last, f.data⟩).2.2.1 = true then [(putB ⟨p.hd, p.L.lv⟩ ⟨f.first, f.last, f.data⟩).2.1] else [], (putB ⟨p.hd, p.L.lv⟩ ⟨f.first, f.last, f.data⟩).2.2.2) := by
  have hn : noteN p.L.cn p.L.cb f.seq = some ((p.L.cn + 1) % 65536, 0) := by rw [hb, hs]; exact note_next hc
  have hd : aheadN p.L.cn ((p.L.cn + 1) % 65536) = 1 := by unfold aheadN; omega
  have e1 : drainK (firstK p f) p.L.cn 1 = putK (firstK p f) p.L.cn := by
    show putK (firstK p f) ((p.L.cn + 0) % 65536) = _
    rw [Nat.add_zero, Nat.mod_eq_of_lt hc]
  have e2 : (firstK p f).E p.L.cn = some ⟨f.first, f.last, f.data⟩ := by unfold firstK; simp [hs]
  have e3 : (firstK p f).k = ⟨p.hd, p.L.lv⟩ := rfl
  unfold takeP
  rw [if_neg (by rw [ha]; decide)]
  simp only [hn, hd, e1]
  unfold putK
  simp only [e2, Option.getD_some, e3]
  refine ⟨⟨rfl, rfl, rfl, rfl⟩, ?_⟩
  congr 1
  split
  · rename_i h0; rw [h0]; rfl
  · rfl
/-- One that has come already. -/
theorem take_had {p : Pk} {f : Fr} (h : hasN p.L.cn p.L.cb f.seq = true) (ha : f.alone = false) : takeP p f = ({ p with xs := keepX f p.xs, L := { p.L with ow := true } }, [], 0) := by
  unfold takeP
  rw [if_neg (by rw [ha]; decide)]
  simp only [noteN_had h]
theorem take_alone {p : Pk} {f : Fr} (ha : f.alone = true) : takeP p f = ({ p with xs := keepX f p.xs }, [], 0) := by
  unfold takeP
  rw [if_pos ha]
theorem has_old {c y s : Nat} (hc : c < 32768) (hs : s < c) : hasN c y s = true := by
  unfold hasN
  have h1 : toI c s < 0 := by unfold toI; split <;> omega
  simp [h1]
/-- Piece j of a message goes into the basket. -/
theorem put_piece {l : List UInt8} (hl : l.length ≤ 1024) {j : Nat} (hj : j < cnt l.length) :
    putB ⟨l.take (64 * j), false⟩ (pieceAt l j) = if j + 1 = cnt l.length then (⟨[], false⟩, l, true, 0) else (⟨l.take (64 * (j + 1)), false⟩, [], false, 0) := by
  have hc : cnt l.length = if l.length = 0 then 1 else (l.length + 63) / 64 := rfl
  have hjl : 64 * j ≤ l.length := by rw [hc] at hj; split at hj <;> omega
  have h1 : (l.take (64 * j)).length = 64 * j := by rw [List.length_take]; omega
  have h2 : (pieceAt l j).data.length = min 64 (l.length - 64 * j) := by simp [pieceAt]
  have hcat : l.take (64 * j) ++ (pieceAt l j).data = l.take (64 * (j + 1)) := by
    show l.take (64 * j) ++ (l.drop (64 * j)).take 64 = _
    rw [show 64 * (j + 1) = 64 * j + 64 by omega, List.take_add]
  have hr : refuseN ⟨l.take (64 * j), false⟩ (pieceAt l j) = 0 := by
    unfold refuseN
    rw [if_neg, if_neg, if_neg, if_neg]
    · rw [h2, h1]; omega
    · rw [h2]
      rintro ⟨h3, h4⟩
      have h3 : decide (j + 1 = cnt l.length) = false := h3
      simp only [decide_eq_false_iff_not] at h3
      rw [hc] at h3 hj
      by_cases h9 : l.length = 0
      · rw [if_pos h9] at h3 hj; omega
      · rw [if_neg h9] at h3 hj; omega
    · rw [h2]; omega
    · show ¬ decide (j = 0) = decide (0 < (l.take (64 * j)).length)
      rw [h1]
      by_cases h0 : j = 0
      · simp [h0]
      · have : 0 < 64 * j := by omega
        simp [h0, this]
  unfold putB
  rw [if_neg (by simp), if_neg (by rw [hr]; simp)]
  by_cases hlast : j + 1 = cnt l.length
  · rw [if_pos (show (pieceAt l j).last = true by show decide (j + 1 = cnt l.length) = true; simpa using hlast), if_pos hlast]
    have h3 : l.take (64 * (j + 1)) = l := List.take_of_length_le (by rw [hlast, hc]; split <;> omega)
    show (_, l.take (64 * j) ++ (pieceAt l j).data, _, _) = _
    rw [hcat, h3]
  · rw [if_neg (show ¬ (pieceAt l j).last = true by show ¬ decide (j + 1 = cnt l.length) = true; simpa using hlast), if_neg hlast]
    show ((⟨l.take (64 * j) ++ (pieceAt l j).data, false⟩ : Bk), _, _, _) = _
    rw [hcat]
theorem flyF_get (ws : List Pc) (n j : Nat) (hj : j < ws.length) : (flyF ws n)[j]'(by rw [flyF_length]; exact hj) = ⟨ws[j], n + j, false, 0⟩ := by
  induction ws generalizing n j with
  | nil => cases hj
  | cons x l ih =>
    cases j with
    | zero => rfl
    | succ j =>
      have := ih (n + 1) j (by simpa using hj)
      simp only [flyF, List.getElem_cons_succ]
      rw [this]
      congr 1
      omega
/-- All that fly were answered. -/
theorem keepX_all {f : Fr} {xs : List Fn} {c : Nat} (hf : f.next = c) (hc : c < 32768) (hx : ∀ x ∈ xs, x.seq < c) : keepX f xs = [] := by
  unfold keepX
  rw [List.filter_eq_nil_iff]
  intro x h
  have h1 : goneN f x = true := by unfold goneN; rw [hf]; exact has_old hc (hx x h)
  simp [h1]
set_option maxHeartbeats 8000000 in
set_option maxRecDepth 20000 in
theorem bytesF_calls (n b : Nat) (w : World) (hn : n ≤ 65535) (hb : b ≤ 255) :
    Calls Tryd.prog 14 #[.int .u16 (n : Int), .int .u8 (b : Int)] w fun e w' => ∃ c bb, e = .returned (.slice (some ⟨bb, 0, none⟩) (n % 1100) c) ∧ n % 1100 ≤ c ∧ c ≤ maxLen ∧ Bs w' bb (some ⟨bb, 0, none⟩) (bytesN (n % 1100) b) ∧ w.heap.size ≤ bb ∧ Below w.heap.size w w' := by
  obtain ⟨m, hm⟩ : ∃ m, m = n % 1100 := ⟨_, rfl⟩
  have hmi : (n : Int) % 1100 = (m : Int) := by omega
  have hm1 : m < 1100 := by omega
  rw [← hm]
  clear hm
  go_enter Tryd.func14, Tryd.ntmps14
  go_wp2_with (refine at_mk 31 _ _ ?_; refine wpList_mkU w rfl _ _ rfl m _ hmi rfl rfl (by omega) ?_; intro w2 hrow hb2)
  obtain ⟨g, hg⟩ : ∃ g, g = w.heap.size := ⟨_, rfl⟩
  have hr0 : Row w2 g (.slice (some ⟨g, 0, none⟩) m m) (bytesTo m b 0) := by rw [hg]; simpa [bytesTo, bytesN] using hrow
  rw [← hg]
  have hgw : w.heap.size ≤ g := by omega
  clear hrow hg
  go_loopw [12] (fun i wr => ∃ k : Nat, k ≤ m ∧ i = .int .i64 k ∧ Row wr g (.slice (some ⟨g, 0, none⟩) m m) (bytesTo m b k) ∧ Below w.heap.size w wr) (fun i _ => m - (intOf i).toNat)
  case atStart => exact ⟨0, Nat.zero_le _, rfl, hr0, hb2⟩
  case round =>
    clear hr0 hb2
    obtain ⟨k, hk, rfl, hr, hbr⟩ := hrel
    by_cases hlt : k < m
    · obtain ⟨g', cap, hv, hBg, hgl, hc, hf, hset⟩ := Row.set_ hr (k := k) (by rw [bytesTo_length m b k hk]; exact hlt)
      injection hv with hA e1 e2
      injection hA with hA
      injection hA with hA
      subst hA
      clear e1 e2 hc
      have hnx := bytesTo_set m b k hlt
      obtain ⟨y, hy⟩ : ∃ y, y = UInt8.ofNat (b + k) := ⟨_, rfl⟩
      have hyv : ((b : Int) + (k : Int) % 256) % 256 = (y.toNat : Int) := by rw [hy, UInt8.toNat_ofNat']; omega
      have hyv2 : ((b : Int) + (k : Int)) % 256 = (y.toNat : Int) := by rw [hy, UInt8.toNat_ofNat']; omega
      rw [← hy] at hnx
      have HR := Lib.hid ((hset y y.toNat _ rfl rfl).cast hnx)
      have HB := Lib.hid (hbr.setCell (p := ⟨g, k, none⟩) hgw (.int .u8 (y.toNat : Int)))
      obtain ⟨u0, hu0⟩ : ∃ u, wr.cell? ⟨g, k, none⟩ = some u := by
        obtain ⟨oa, hA, hca⟩ := Bs.at_ (Row.bs_ hr).2.2 (k := k) (by rw [bytesTo_length m b k hk]; exact hlt)
        injection hA with hA
        injection hA with _ hA _
        subst hA
        exact ⟨_, by have := hca k (by rw [bytesTo_length m b k hk]; exact hlt); simpa using this⟩
      clear hset hr hbr hnx hy
      go_wp2_with fail
      go_roundw
      case rel => exact ⟨k + 1, by omega, by go_num, HR.out, HB.out⟩
      case measure => simp [intOf]; omega
    · obtain rfl : k = m := by omega
      have hs := (Row.bs_ hr).2.2
      have e : bytesTo k b k = bytesN k b := by simp [bytesTo]
      rw [e] at hs
      clear hr e
      go_wp2_with fail
      go_ret
      exact ⟨k, g, rfl, Nat.le_refl _, by simp only [maxLen]; omega, hs, hgw, hbr⟩
theorem bytesF_at (n b : Nat) (I J : Int) (hI : I = (n : Int)) (hJ : J = (b : Int)) (w : World) (hn : n < 1100) (hb : b ≤ 255) :
    Calls Tryd.prog 14 #[.int .u16 I, .int .u8 J] w fun e w' => ∃ c bb, e = .returned (.slice (some ⟨bb, 0, none⟩) n c) ∧ n ≤ c ∧ c ≤ maxLen ∧ Bs w' bb (some ⟨bb, 0, none⟩) (bytesN n b) ∧ w.heap.size ≤ bb ∧ Below w.heap.size w w' := by
  subst hI hJ
  have h := bytesF_calls n b w (by omega) hb
  rw [Nat.mod_eq_of_lt hn] at h
  exact h
/-- What is made new is none of either's. -/
theorem L2.fence {w w' : World} {Ba ga na Bb gb nb : Nat} {pa pb : Pk} {Za Zb : Nat → Prop} (h : L2 w Ba ga pa na Bb gb pb nb Za Zb) (hm : Below w.heap.size w w') : L2 w' Ba ga pa na Bb gb pb nb (fun i => Za i ∨ (w.heap.size ≤ i ∧ i < w'.heap.size)) (fun i => Zb i ∨ (w.heap.size ≤ i ∧ i < w'.heap.size)) := by
  have h1 := h.ext hm
  obtain ⟨Sa, Sb, ha, hb, d, za, zb⟩ := h.out
  exact ⟨⟨Sa, Sb, ha.ext hm, hb.ext hm, d, fun i hi hh => by
    rcases hh with hh | hh
    · exact za i hi hh
    · have := ha.lt i hi; omega, fun i hi hh => by
    rcases hh with hh | hh
    · exact zb i hi hh
    · have := hb.lt i hi; omega⟩, h1.tab, h1.ta, h1.tb, fun i hi => by
    rcases hi with hi | hi
    · exact h1.za i hi
    · exact hi.2, fun i hi => by
    rcases hi with hi | hi
    · exact h1.zb i hi
    · exact hi.2⟩
section
variable {w : World} {Ba ga na Bb gb nb : Nat} {pa pb : Pk} {Za Zb : Nat → Prop}
theorem L2SendK (h : L2 w Ba ga pa na Bb gb pb nb Za Zb) (A : Option Addr) (l : List UInt8) (n c b : Nat) (hs : Bs w b A l) (hn : l.length = n) (h1024 : n ≤ 1024) (hc : n ≤ c) (hcm : c ≤ maxLen) (hroom : pa.ws.length + cnt n ≤ 128) :
    Calls Tryd.prog 15 #[.pointer (some ⟨ga, 0, none⟩), .slice A n c] w fun e w' => e = .returned (.int .i64 0) ∧ L2 w' Ba ga (sendP pa l) na Bb gb pb nb Za Zb ∧ TMods LTs Ba w w' ∧ Kept Ba Za w w' := by
  obtain ⟨Sa, Sb, ha, hb, d, za, zb⟩ := h.out
  exact (LrSend_calls Ba ga Sa pa na A l n c b w ha hs hn h1024 hc hcm hroom).mono fun e w' ⟨he, ho, hT⟩ => ⟨he, (h.step hb ha.ge d za zb ho).mono (fun i hi => hi) (fun i hi => .inl hi), hT, ⟨Sa, ho.mod, za, ha.ge⟩⟩
theorem L2TickK (h : L2 w Ba ga pa na Bb gb pb nb Za Zb) (m : Nat) (now : Int) (hok : pa.Ok m) (hm : m ≤ 100000) (hnow : 0 ≤ now ∧ now ≤ 1000000) (n : Nat) (fs : List Fr) (hfs : toldP now pa = fs) (hn : fs.length = n) :
    Calls Tryd.prog 17 #[.pointer (some ⟨ga, 0, none⟩), .int .i64 now] w fun e w' => ∃ A c us, e = .returned (.slice A n c) ∧ L2 w' Ba ga (tickP now pa) na Bb gb pb nb Za (fun i => Zb i ∨ (w.heap.size ≤ i ∧ i < w'.heap.size)) ∧ ToldZ w' (fun i => w.heap.size ≤ i ∧ i < w'.heap.size) A n c us fs ∧ TMods LTs Ba w w' ∧ Kept Ba Za w w' := by
  obtain ⟨Sa, Sb, ha, hb, d, za, zb⟩ := h.out
  refine (LrTick_calls Ba ga Sa pa na m now w ha hok hm hnow).mono ?_
  rintro e w' ⟨vo, rfl, ⟨ho, ⟨us, hvo, hI⟩, hT⟩⟩
  rw [hfs] at hI
  have hul : us.length = n := by rw [hI.1, List.length_map]; exact hn
  have hvo2 := hvo
  obtain ⟨A1, c1, b1, hv, -⟩ := RowS.sl hvo2
  rw [hul] at hv
  subst hv
  refine ⟨A1, c1, us, rfl, h.step hb ha.ge d za zb ho, ⟨⟨w.heap.size, hvo, hI, hn⟩, fun k hk => World.ownsRow.lt hvo k hk, fun u hu k hk => ?_⟩, hT, ⟨Sa, ho.mod, za, ha.ge⟩⟩
  obtain ⟨j, hj, hju⟩ := List.getElem_of_mem hu
  have hjl : j < (fs.map fun f => sealedL f.raw).length := by rw [← hI.1]; exact hj
  obtain ⟨u', h1, h2⟩ := hI.2 j _ (List.getElem?_eq_getElem hjl)
  rw [List.getElem?_eq_getElem hj] at h1
  injection h1 with h1
  rw [hju] at h1
  subst h1
  exact World.ownsRow.lt h2 k hk
end
/-- A list of bytes in a block of Z stays. -/
theorem Kept.bs {B : Nat} {Z : Nat → Prop} {w w' : World} (h : Kept B Z w w') {b : Nat} {A : Option Addr} {l : List UInt8} (hs : Bs w b A l) (hz : l ≠ [] → Z b) : Bs w' b A l := by
  obtain ⟨S, hm, h1, -⟩ := h.out
  exact Bs.modne hs hm (fun h0 hh => h1 b hh (hz h0))
/-- One of the lists told. -/
theorem row_at {w : World} {C D n c : Nat} {A : Option Addr} {us : List Value} {ls : List (List UInt8)} (h : RowS w C (.slice A n c) us) (hI : RowsIn w D us ls) {k : Nat} (hk : k < n) (hkl : k < ls.length) :
    ∃ g oa A2 m c2 b2, A = some ⟨g, oa, none⟩ ∧ w.cell? ⟨g, oa + k, none⟩ = some (.slice A2 m c2) ∧ ls[k].length = m ∧ m ≤ c2 ∧ Bs w b2 A2 ls[k] := by
  obtain ⟨u, hu, hr⟩ := hI.2 k _ (List.getElem?_eq_getElem hkl)
  obtain ⟨A2, c2, b2, rfl, hc, -, -, -, hs, -⟩ := hr.sl
  obtain ⟨A3, c3, b, hv, -, -, -, hsl, -⟩ := RowS.sl h
  injection hv with e1 e2 e3
  subst e1
  obtain ⟨oa, e4, hca⟩ := hsl (by rintro rfl; simp at hu)
  subst e4
  exact ⟨_, _, A2, _, c2, b2, rfl, hca k _ hu, rfl, hc, hs⟩
theorem row_cap {w : World} {C n c : Nat} {A : Option Addr} {us : List Value} (h : RowS w C (.slice A n c) us) : n ≤ c := by
  obtain ⟨A3, c3, b, hv, h1, -⟩ := RowS.sl h
  injection hv with e1 e2 e3
  rw [e2, e3]
  exact h1
end Go.Proofs.YtcgbamkfflcdfaaDoor
