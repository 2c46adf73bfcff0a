/- A link in the laws' words: what waits, what flies, and what Send, Tick, Take make of it. Conditions: those said. -/
import Derived.Test.YtgpedkdebifooaaDoorLkW
namespace Go.Proofs.YtgpedkdebifooaaDoor
open Go.RowKit
set_option linter.unusedVariables false

/-- A flight, plainly. -/
structure Fn where
  p : Pc
  seq : Nat
  sent : Bool
  at_ : Int
def Fl.n (x : Fl) : Fn := ⟨x.p.p, x.seq, x.sent, x.at_⟩
def roomK (nx : Nat) : List Fn → Bool
  | [] => true
  | x :: _ => decide (toI x.seq nx < 32)
def startK : List Pc → Nat → List Fn → Nat × List Pc × List Fn
  | [], nx, xs => (nx, [], xs)
  | x :: ws, nx, xs => if roomK nx xs then startK ws ((nx + 1) % 65536) (xs ++ [⟨x, nx, false, 0⟩]) else (nx, x :: ws, xs)
theorem room_key (nx : Nat) (xs : List Fl) : roomK nx (xs.map Fl.n) = roomB nx xs := by cases xs <;> rfl
theorem start_key (ws : List PV) (nx : Nat) (xs : List Fl) : startK (ws.map PV.p) nx (xs.map Fl.n) = ((startN ws nx xs).1, (startN ws nx xs).2.1.map PV.p, (startN ws nx xs).2.2.map Fl.n) := by
  induction ws generalizing nx xs with
  | nil => rfl
  | cons x ws ih =>
    rw [List.map_cons, startK, startN, room_key]
    by_cases h : roomB nx xs = true
    · rw [if_pos h, if_pos h, ← ih]
      congr 1
      rw [List.map_append]
      rfl
    · rw [if_neg h, if_neg h]
      rfl
/-- What was of all pieces, is of those that start leaves. -/
theorem start_all {Q : PV → Prop} (ws : List PV) (nx : Nat) (xs : List Fl) (h1 : ∀ x ∈ ws, Q x) (h2 : ∀ x ∈ xs, Q x.p) : (∀ x ∈ (startN ws nx xs).2.1, Q x) ∧ ∀ x ∈ (startN ws nx xs).2.2, Q x.p := by
  induction ws generalizing nx xs with
  | nil => exact ⟨by simp [startN], h2⟩
  | cons x ws ih =>
    rw [startN]
    split
    · refine ih _ _ (fun y hy => h1 y (List.mem_cons_of_mem _ hy)) (fun y hy => ?_)
      rcases List.mem_append.1 hy with hy | hy
      · exact h2 y hy
      · rw [List.mem_singleton] at hy
        rw [hy]
        exact h1 x (List.mem_cons_self ..)
    · exact ⟨h1, h2⟩
def dueK (now : Int) (x : Fn) : Bool := !x.sent || decide (3 ≤ now - x.at_)
def tickK (now : Int) (x : Fn) : Fn := if dueK now x then { x with sent := true, at_ := now } else x
def frK (L : Lk) (x : Fn) : Fr := ⟨L.ep, x.seq, L.cn, L.cb, x.p.first, x.p.last, false, x.p.data⟩
def sendsK (now : Int) (L : Lk) (xs : List Fn) : List Fr := (xs.filter (dueK now)).map (frK L)
theorem tick_key (now : Int) (x : Fl) : (tickX now x).n = tickK now x.n := by
  unfold tickX tickK
  by_cases h : dueB now x = true
  · rw [if_pos h, if_pos (show dueK now x.n = true from h)]
    rfl
  · rw [if_neg h, if_neg (show ¬ dueK now x.n = true from h)]
theorem sends_key (now : Int) (L : Lk) (xs : List Fl) : sendsTo now L xs = (sendsK now L (xs.map Fl.n)).map fun f => sealedL f.raw := by
  induction xs with
  | nil => rfl
  | cons x l ih =>
    simp only [sendsTo, sendsK, List.map_cons, List.filter_cons] at ih ⊢
    rw [show dueK now x.n = dueB now x from rfl]
    split
    · rw [List.map_cons, List.map_cons, List.map_cons, ih]; rfl
    · exact ih
/-- A link: what waits, what flies; all its blocks are of S. -/
structure Lq (B g : Nat) (S : Nat → Prop) (w : World) (L : Lk) (ws : List Pc) (xs : List Fn) : Prop where
  out : ∃ bm vw vf vh wv xv, LS w B g bm L vw vf vh wv xv ∧ wv.map PV.p = ws ∧ xv.map Fl.n = xs ∧ (∀ x ∈ wv, PV.InT w x) ∧ (∀ x ∈ xv, PV.InT w x.p) ∧ S g ∧ (∀ i, vw.ownBlock = some i → S i) ∧ (∀ i, vf.ownBlock = some i → S i)
  lt : ∀ i, S i → i < w.heap.size
  hg : B ≤ g
/-- Its blocks behind a step. -/
def grow (S : Nat → Prop) (w w' : World) : Nat → Prop := fun i => S i ∨ (w.heap.size ≤ i ∧ i < w'.heap.size)
theorem Lq.ext {B g : Nat} {S : Nat → Prop} {w w' : World} {L : Lk} {ws : List Pc} {xs : List Fn} (h : Lq B g S w L ws xs) (hm : Below w.heap.size w w') : Lq B g S w' L ws xs := by
  obtain ⟨bm, vw, vf, vh, wv, xv, q, h1, h2, h3, h4, h5⟩ := h.out
  exact ⟨⟨bm, vw, vf, vh, wv, xv, q.ext hm, h1, h2, fun x hx => (h3 x hx).ext hm, fun x hx => (h4 x hx).ext hm, h5⟩, fun i hi => Nat.lt_of_lt_of_le (h.lt i hi) hm.size, h.hg⟩
/-- Another link's step. -/
theorem Lq.keep {B g B2 : Nat} {S S2 : Nat → Prop} {w w' : World} {L : Lk} {ws : List Pc} {xs : List Fn} (h : Lq B g S w L ws xs) (hm : Mod S2 w w') (hT : TMods LTs B2 w w') (hd : ∀ i, S i → ¬ S2 i) : Lq B g S w' L ws xs := by
  obtain ⟨bm, vw, vf, vh, wv, xv, q, h1, h2, h3, h4, h5, h6, h7⟩ := h.out
  exact ⟨⟨bm, vw, vf, vh, wv, xv, ⟨q.q.mod hm (hd _ h5), ownsP_mod q.rp hm (fun k hk => hd k (h6 k hk)), ownsP_mod q.rf hm (fun k hk => hd k (h7 k hk)), Nat.le_trans q.hB hm.size⟩, h1, h2, fun x hx => hT.inT (h3 x hx) (by decide), fun x hx => hT.inT (h4 x hx) (by decide), h5, h6, h7⟩, fun i hi => Nat.lt_of_lt_of_le (h.lt i hi) hm.size, h.hg⟩
theorem LqNew_calls (ep : Nat) (w : World) :
    Calls Tryd.prog 13 #[.int .u16 (ep : Int)] w fun e w' => ∃ g, e = .returned (.pointer (some ⟨g, 0, none⟩)) ∧ Lq w.heap.size g (fun i => w.heap.size ≤ i ∧ i < w'.heap.size) w' ⟨ep, 0, 0, 0, false, false⟩ [] [] ∧ Below w.heap.size w w' := by
  refine (LNew_calls ep w).mono ?_
  rintro e w' ⟨g, bm, rfl, q, -, h1, h2, hb⟩
  have hS : w.heap.size ≤ g ∧ g < w'.heap.size := ⟨h1, q.lt⟩
  have hN : ∀ i, (Value.slice none 0 0).ownBlock = some i → w.heap.size ≤ i ∧ i < w'.heap.size := fun i hi => by cases hi
  have hL : LS w' w.heap.size g bm ⟨ep, 0, 0, 0, false, false⟩ (.slice none 0 0) (.slice none 0 0) (.slice none 0 0) [] [] := ⟨q, World.ownsRow_nil _ _ _ _, World.ownsRow_nil _ _ _ _, hb.size⟩
  have hE : (∀ x ∈ ([] : List PV), PV.InT w' x) ∧ ∀ x ∈ ([] : List Fl), PV.InT w' x.p := ⟨fun x hx => (by cases hx), fun x hx => (by cases hx)⟩
  exact ⟨g, rfl, ⟨⟨bm, _, _, _, [], [], hL, rfl, rfl, hE.1, hE.2, hS, hN, hN⟩, fun i hi => hi.2, h1⟩, hb⟩
/-- What a step of a link leaves. -/
structure LqO (B g : Nat) (S : Nat → Prop) (w w' : World) (L : Lk) (ws : List Pc) (xs : List Fn) : Prop where
  lq : Lq B g (grow S w w') w' L ws xs
  typ : TMods LTs B w w'
  mod : Mod S w w'
theorem LqSend_calls (B g : Nat) (S : Nat → Prop) (L : Lk) (ws : List Pc) (xs : List Fn) (A : Option Addr) (l : List UInt8) (n c b : Nat) (w : World) (h : Lq B g S w L ws xs) (hs : Bs w b A l) (hn : l.length = n) (h1024 : n ≤ 1024) (hc : n ≤ c) (hcm : c ≤ maxLen) (hroom : ws.length + cnt n ≤ 128) :
    Calls Tryd.prog 15 #[.pointer (some ⟨g, 0, none⟩), .slice A n c] w fun e w' => e = .returned (.int .i64 0) ∧ LqO B g S w w' L (ws ++ splitP l) xs := by
  obtain ⟨bm, vw, vf, vh, wv, xv, q, h1, h2, h3, h4, h5, h6, h7⟩ := h.out
  obtain ⟨A1, k1, b1, rfl, -⟩ := ownsP_sl q.rp
  have hwl : wv.length = ws.length := by rw [← h1, List.length_map]
  have q0 := q
  refine (LSend_calls B g bm L A1 wv.length k1 wv vf vh A l n c b w q.q q.rp rfl hs hn h1024 hc hcm (by omega) q.hB).mono ?_
  rintro e w' ⟨A2, c2, ys, rfl, q', rp', hys, hin, hat, hm⟩
  have hT := TMods.of_mod q0 (hm.mono (fun i _ hh => by
    rcases hh with h | h
    · exact .inl h
    · exact .inr (.inl h))) h.hg
  have hM : Mod S w w' := hm.mono (fun i _ hh => by
    rcases hh with rfl | hh
    · exact h5
    · exact h6 i hh)
  have hrf := ownsP_mod q.rf hm (fun i hi hh => by
    rcases hh with rfl | hh
    · exact row_apart q.rf q.q (by decide) hi
    · exact rows_apartT q.rp q.rf (by decide) i hh hi)
  refine ⟨rfl, ⟨⟨⟨bm, _, vf, vh, wv ++ ys, xv, ⟨q', rp', hrf, Nat.le_trans q.hB hT.bel.size⟩, by rw [List.map_append, h1, hys], h2, fun x hx => ?_, fun x hx => hT.inT (h4 x hx) (by decide), .inl h5, fun i hi => ?_, fun i hi => .inl (h7 i hi)⟩, fun i hi => ?_, h.hg⟩, hT, hM⟩⟩
  · rcases List.mem_append.1 hx with hx | hx
    · exact hT.inT (h3 x hx) (by decide)
    · exact (hin x hx).1
  · rcases hat i hi with h8 | h8
    · exact .inl (h6 i h8)
    · exact .inr ⟨h8, (World.ownsRow.lt rp' i hi).2⟩
  · rcases hi with hi | hi
    · exact Nat.lt_of_lt_of_le (h.lt i hi) hM.size
    · exact hi.2
/-- What a Tick leaves, and tells. -/
structure LqT (B g : Nat) (S : Nat → Prop) (w w' : World) (L : Lk) (ws : List Pc) (xs : List Fn) (now : Int) (vo : Value) : Prop where
  out : ∃ us, LqO B g S w w' { L with nx := (startK ws L.nx xs).1, ow := false } (startK ws L.nx xs).2.1 ((startK ws L.nx xs).2.2.map (tickK now)) ∧ RowS w' w.heap.size vo us ∧ RowsIn w' w.heap.size us ((sendsK now L (startK ws L.nx xs).2.2).map fun f => sealedL f.raw)
theorem LqTick_calls (B g : Nat) (S : Nat → Prop) (L : Lk) (ws : List Pc) (xs : List Fn) (now : Int) (w : World) (h : Lq B g S w L ws xs) (hep : L.ep < 65536) (hnx : L.nx < 65536) (hcn : L.cn < 65536) (hcb : L.cb < 4294967296) (hxs : ∀ x ∈ (startK ws L.nx xs).2.2, x.seq < 65536 ∧ x.p.data.length ≤ 64 ∧ 0 ≤ x.at_ ∧ x.at_ ≤ 1000000) (hsx : ∀ x ∈ xs, x.seq < 65536) (hl : ws.length + xs.length ≤ 1000) (hsl : (startK ws L.nx xs).2.2.length ≤ 1000) (hnow : 0 ≤ now ∧ now ≤ 1000000) (how : sendsK now L (startK ws L.nx xs).2.2 = [] → L.ow = false) :
    Calls Tryd.prog 17 #[.pointer (some ⟨g, 0, none⟩), .int .i64 now] w fun e w' => ∃ vo, e = .returned vo ∧ LqT B g S w w' L ws xs now vo := by
  obtain ⟨bm, vw, vf, vh, wv, xv, q, h1, h2, h3, h4, h5, h6, h7⟩ := h.out
  have hk := start_key wv L.nx xv
  rw [h1, h2] at hk
  obtain ⟨i1, i2⟩ := start_all (Q := PV.InT w) wv L.nx xv h3 h4
  have hsk : sendsTo now (startL L wv xv) (startN wv L.nx xv).2.2 = (sendsK now L (startK ws L.nx xs).2.2).map fun f => sealedL f.raw := by
    rw [sends_key, hk]
    rfl
  have hwl : wv.length = ws.length := by rw [← h1, List.length_map]
  have hxl : xv.length = xs.length := by rw [← h2, List.length_map]
  have hsl2 : (startN wv L.nx xv).2.2.length = (startK ws L.nx xs).2.2.length := by rw [hk]; simp
  refine (Tick_calls B g bm L vw vf vh wv xv now w q h.hg hep hnx hcn hcb (fun x hx => ?_) (fun x hx => ?_) (by omega) (by omega) hnow (fun h0 => how ?_)).mono ?_
  · have h5 := hxs x.n (by rw [hk]; exact List.mem_map_of_mem hx)
    exact ⟨h5.1, h5.2.1, h5.2.2.1, h5.2.2.2, i2 x hx⟩
  · exact hsx x.n (by rw [← h2]; exact List.mem_map_of_mem hx)
  · rw [hsk] at h0
    exact List.map_eq_nil_iff.1 h0
  · rintro e w' ⟨vo, rfl, ⟨vw', vf', us, q', hvo, hI, hT, hm, ho1, ho2⟩⟩
    have hM : Mod S w w' := hm.mono (fun i _ hh => by
      rcases hh with rfl | hh | hh
      · exact h5
      · exact h6 i hh
      · exact h7 i hh)
    refine ⟨vo, rfl, ⟨us, ⟨⟨⟨bm, vw', vf', vh, (startN wv L.nx xv).2.1, (startN wv L.nx xv).2.2.map (tickX now), ?_, ?_, ?_, ?_, ?_, .inl h5, fun i hi => ?_, fun i hi => ?_⟩, fun i hi => ?_, h.hg⟩, hT, hM⟩, hvo, by rw [← hsk]; exact hI⟩⟩
    · have e : ({ startL L wv xv with ow := false } : Lk) = { L with nx := (startK ws L.nx xs).1, ow := false } := by rw [hk]; rfl
      rw [← e]
      exact q'
    · rw [hk]
    · rw [hk, List.map_map, List.map_map]
      exact List.map_congr_left fun x _ => tick_key now x
    · exact fun x hx => hT.inT (i1 x hx) (by decide)
    · intro x hx
      obtain ⟨y, hy, rfl⟩ := List.mem_map.1 hx
      have h5 := hT.inT (i2 y hy) (by decide)
      unfold tickX
      split
      · exact h5
      · exact h5
    · rcases ho1 i hi with h8 | h8
      · exact .inl (h6 i h8)
      · exact .inr ⟨h8, (World.ownsRow.lt q'.rp i hi).2⟩
    · rcases ho2 i hi with h8 | h8
      · exact .inl (h7 i h8)
      · exact .inr ⟨h8, (World.ownsRow.lt q'.rf i hi).2⟩
    · rcases hi with hi | hi
      · exact Nat.lt_of_lt_of_le (h.lt i hi) hM.size
      · exact hi.2
theorem LqTakeOld_calls (B g : Nat) (S : Nat → Prop) (L : Lk) (ws : List Pc) (xs : List Fn) (f : Fr) (A : Option Addr) (n c b : Nat) (w : World) (h : Lq B g S w L ws xs) (ho : f.Ok) (hr : f.right = true) (hs : Bs w b A (sealedL f.raw)) (hn : (sealedL f.raw).length = n) (hc : n ≤ c) (hep : L.ep < 65536) (hne : f.epoch ≠ L.ep) :
    Calls Tryd.prog 18 #[.pointer (some ⟨g, 0, none⟩), .slice A n c] w fun e w' => e = .returned (.tuple #[.slice none 0 0, .int .i64 10]) ∧ Below w.heap.size w w' := by
  obtain ⟨bm, vw, vf, vh, wv, xv, q, h1, h2, h3, h4⟩ := h.out
  exact TakeOld_calls g bm L vw vf vh f A n c b w q.q ho hr hs hn hc hep hne
theorem LqFlying_calls (B g : Nat) (S : Nat → Prop) (L : Lk) (ws : List Pc) (xs : List Fn) (w : World) (h : Lq B g S w L ws xs) :
    Calls Tryd.prog 25 #[.pointer (some ⟨g, 0, none⟩)] w fun e w' => e = .returned (.int .i64 (xs.length : Int)) ∧ w = w' := by
  obtain ⟨bm, vw, vf, vh, wv, xv, q, h1, h2, h3, h4⟩ := h.out
  obtain ⟨A1, k1, b1, rfl, -⟩ := ownsP_sl q.rf
  rw [← h2, List.length_map]
  exact LFlying_calls g bm L vw A1 xv.length k1 vh w q.q
theorem LqAcks_calls (B g : Nat) (S : Nat → Prop) (L : Lk) (ws : List Pc) (xs : List Fn) (w : World) (h : Lq B g S w L ws xs) :
    Calls Tryd.prog 26 #[.pointer (some ⟨g, 0, none⟩)] w fun e w' => e = .returned (.agg #[.int .u16 (L.cn : Int), .int .u32 (L.cb : Int)]) ∧ Below w.heap.size w w' := by
  obtain ⟨bm, vw, vf, vh, wv, xv, q, h1, h2, h3, h4⟩ := h.out
  exact LAcks_calls g bm L vw vf vh w q.q
theorem LqEpoch_calls (B g : Nat) (S : Nat → Prop) (L : Lk) (ws : List Pc) (xs : List Fn) (w : World) (h : Lq B g S w L ws xs) :
    Calls Tryd.prog 29 #[.pointer (some ⟨g, 0, none⟩)] w fun e w' => e = .returned (.int .u16 (L.ep : Int)) ∧ w = w' := by
  obtain ⟨bm, vw, vf, vh, wv, xv, q, h1, h2, h3, h4⟩ := h.out
  exact LEpoch_calls g bm L vw vf vh w q.q
end Go.Proofs.YtgpedkdebifooaaDoor
