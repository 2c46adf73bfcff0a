/- What starts, is sent, and LinkEpochs: parts of one proof, in their order. -/
import Derived.Test.YtgpedkdebifooaaDoorLkX
import Derived.Test.YtgpedkdebifooaaDoorRowSet
import Derived.OwnWalk
import Derived.Test.YtgpedkdebifooaaDoorBase
import Derived.Test.YtgpedkdebifooaaDoorRows
import Derived.Lib.LaidTab
import Derived.Shelf.Spec.TrailingZeros
namespace Go.Proofs.YtgpedkdebifooaaDoor
open Go.RowKit
set_option linter.unusedVariables false

/-- Pieces that fly, from a number on, not sent yet. -/
def flyF : List Pc → Nat → List Fn
  | [], _ => []
  | x :: ws, n => ⟨x, n, false, 0⟩ :: flyF ws (n + 1)
theorem flyF_length (ws : List Pc) (n : Nat) : (flyF ws n).length = ws.length := by
  induction ws generalizing n with
  | nil => rfl
  | cons x l ih => simp [flyF, ih]
theorem startK_few (ws : List Pc) (xs : List Fn) (h : ∀ x ∈ xs.head?, x.seq = 0) (hl : xs.length + ws.length ≤ 32) : startK ws xs.length xs = (xs.length + ws.length, [], xs ++ flyF ws xs.length) := by
  induction ws generalizing xs with
  | nil => simp [startK, flyF]
  | cons x ws ih =>
    have hr : roomK xs.length xs = true := by
      cases xs with
      | nil => rfl
      | cons y l =>
        have hy : y.seq = 0 := h y (by simp)
        simp only [List.length_cons] at hl
        simp only [roomK, hy, decide_eq_true_eq, List.length_cons]
        unfold toI
        split <;> omega
    have h2 : (xs.length + 1) % 65536 = (xs ++ [(⟨x, xs.length, false, 0⟩ : Fn)]).length := by simp only [List.length_cons] at hl; simp; omega
    rw [startK, if_pos hr, h2, ih _ (by
      intro z hz
      cases xs with
      | nil => simp at hz; rw [← hz]
      | cons y l => simp at hz; rw [← hz]; exact h y (by simp)) (by simp only [List.length_cons] at hl; simp; omega)]
    simp only [List.length_append, List.length_cons, List.length_nil, flyF, List.append_assoc, List.cons_append, List.nil_append]
    rw [show xs.length + (0 + 1) = xs.length + 1 by omega]
    congr 1
    omega
theorem startK_new (ws : List Pc) (hl : ws.length ≤ 32) : startK ws 0 [] = (ws.length, [], flyF ws 0) := by
  have := startK_few ws [] (by simp) (by simpa using hl)
  simpa using this
theorem flyF_mem {ws : List Pc} {n : Nat} {x : Fn} (h : x ∈ flyF ws n) : x.sent = false ∧ x.at_ = 0 ∧ x.p ∈ ws ∧ n ≤ x.seq ∧ x.seq < n + ws.length := by
  induction ws generalizing n with
  | nil => cases h
  | cons y l ih =>
    rcases List.mem_cons.1 h with rfl | h
    · exact ⟨rfl, rfl, by simp, Nat.le_refl _, by simp⟩
    · obtain ⟨h1, h2, h3, h4, h5⟩ := ih h
      exact ⟨h1, h2, List.mem_cons_of_mem _ h3, by omega, by simp; omega⟩
theorem sends_new (now : Int) (L : Lk) (xs : List Fn) (h : ∀ x ∈ xs, x.sent = false) : sendsK now L xs = xs.map (frK L) := by
  unfold sendsK
  rw [List.filter_eq_self.2 (fun x hx => by simp [dueK, h x hx])]
theorem sends_none (now : Int) (L : Lk) (xs : List Fn) (h : ∀ x ∈ xs, x.sent = true ∧ now - x.at_ < 3) : sendsK now L xs = [] := by
  unfold sendsK
  rw [List.filter_eq_nil_iff.2 (fun x hx => by have h1 := h x hx; simp [dueK, h1.1]; omega)]
  rfl
theorem tick_new (now : Int) {x : Fn} (h : x.sent = false) : tickK now x = { x with sent := true, at_ := now } := by
  unfold tickK
  rw [if_pos (by simp [dueK, h])]
theorem tick_same (now : Int) {x : Fn} (h : x.sent = true ∧ now - x.at_ < 3) : tickK now x = x := by
  unfold tickK
  rw [if_neg (by simp [dueK, h.1]; omega)]
theorem split_small {l : List UInt8} : ∀ p ∈ splitP l, p.data.length ≤ 64 := by
  intro p hp
  unfold splitP at hp
  obtain ⟨i, _, rfl⟩ := List.mem_map.1 hp
  simp only [pieceAt, List.length_take]
  omega
theorem bv_zeros (n : Nat) : (madeCells (Value.int .u8 0).cells (n * 1)).toList = bv (List.replicate n 0) := by
  apply List.ext_getElem (by simp [madeCells])
  intro j h1 h2
  simp [madeCells, Value.cells, bv, Nat.mod_one]
theorem u8_info : (Tryd.prog.info? 5).map (fun i => (i.zero, i.size, i.bytes)) = some (some (.int .u8 0), 1, 1) := by kernel_rfl
theorem at_mk {P : Program} {ops : Array Oper} {rest : List Oper} {a : Act} {w : World} {Q : Exit → Act → World → Prop} {d : Option Tmp} {ty : TypeId} {pos : String} {af : Array Edge} {g : Option (Nat × Bool)} (T : TypeId) (x y : Operand) (h : wpList P ops Q (Oper.mk d (.makeSlice T x y) ty pos af g :: rest) a w) : wpList P ops Q (Oper.mk d (.makeSlice T x y) ty pos af g :: rest) a w := h
set_option maxRecDepth 20000 in
theorem wp_mkBy {op : Oper} {a : Act} {w : World} {K : Act → World → Prop} {Q : Exit → Act → World → Prop} (l c : Operand) (ho : op.op = .makeSlice 31 l c) (n : Nat) (hl : a.eval l = .int .i64 (n : Int)) (hc : a.eval c = .int .i64 (n : Int)) (hn : n ≤ 1000000)
    (h : ∀ w', Row w' w.heap.size (.slice (some ⟨w.heap.size, 0, none⟩) n n) (List.replicate n 0) → Below w.heap.size w w' → K (a.put op.dst (.slice (some ⟨w.heap.size, 0, none⟩) n n)) w') : op.wp Tryd.prog a w K Q := by
  obtain ⟨i0, hi0, hz0, hz1, hz2⟩ := info_parts u8_info
  obtain ⟨w', hrun, r1, r2⟩ := run_make_full (P := Tryd.prog) w w.heap.size 31 5 i0 _ 1 Tryd.underlying31 hi0 hz0 hz1 .i64 .i64 n (by rw [hz2]; omega) (by simp only [maxLen]; omega) (Nat.le_refl _)
  rw [bv_zeros] at r1
  unfold Oper.wp
  simp [execOp, ho, hl, hc, hrun, Result.andThen]
  refine h w' (by unfold Row; simpa using r1) ((Mod.of_grown r2).below (Nat.le_refl _) (fun i _ h => by cases h))
theorem wpList_mkBy (w : World) {ops : Array Oper} {rest : List Oper} {o : Oper} {a : Act} {Q : Exit → Act → World → Prop} (hgd : o.guard = none) (l c : Operand) (ho : o.op = .makeSlice 31 l c) (n : Nat) (hl : a.eval l = .int .i64 (n : Int)) (hc : a.eval c = .int .i64 (n : Int)) (hn : n ≤ 1000000)
    (h : ∀ w', Row w' w.heap.size (.slice (some ⟨w.heap.size, 0, none⟩) n n) (List.replicate n 0) → Below w.heap.size w w' → wpList Tryd.prog ops Q rest (a.put o.dst (.slice (some ⟨w.heap.size, 0, none⟩) n n)) w') : wpList Tryd.prog ops Q (o :: rest) a w :=
  wpList_plain hgd fun _ hK => wp_mkBy l c ho n hl hc hn fun w' h1 h2 => hK _ _ (h w' h1 h2)
set_option maxHeartbeats 8000000 in
set_option maxRecDepth 20000 in
theorem awake_calls (w : World) : Calls Tryd.prog 12 #[] w fun e w' => e = .returned (.bool true) ∧ Below w.heap.size w w' := by
  go_enter Tryd.func12, Tryd.ntmps12
  go_wp2_with fail
  refine (LqNew_calls 3 w).mono ?_
  rintro e w1 ⟨g, rfl, hL, hb⟩
  obtain ⟨ws, hws⟩ : ∃ ws, ws = splitP (List.replicate 100 0) := ⟨_, rfl⟩
  have hwl : ws.length = 2 := by rw [hws]; rfl
  have hw64 : ∀ p ∈ ws, p.data.length ≤ 64 := by rw [hws]; exact split_small
  have hst := startK_new ws (by omega)
  obtain ⟨xs, hxs⟩ : ∃ xs, xs = flyF ws 0 := ⟨_, rfl⟩
  rw [← hxs] at hst
  have hxm : ∀ x ∈ xs, x.sent = false ∧ x.at_ = 0 ∧ x.p ∈ ws ∧ 0 ≤ x.seq ∧ x.seq < 0 + ws.length := by rw [hxs]; exact fun x h => flyF_mem h
  have hxl : xs.length = 2 := by rw [hxs, flyF_length]; exact hwl
  obtain ⟨S0, hS0⟩ : ∃ S0 : Nat → Prop, S0 = fun i => w.heap.size ≤ i ∧ i < w1.heap.size := ⟨_, rfl⟩
  rw [← hS0] at hL
  have hwB : w.heap.size ≤ w1.heap.size := hb.size
  have HWS := Lib.hid hws.symm
  clear hws hxs hS0
  have hz1 : (sendsK 0 ⟨3, 0, 0, 0, false, false⟩ xs).length = 2 := by rw [sends_new 0 _ xs (fun x hx => (hxm x hx).1), List.length_map]; exact hxl
  go_wp2_with (refine at_mk 31 _ _ ?_; refine wpList_mkBy w1 rfl _ _ rfl 100 rfl rfl (by decide) ?_; intro w2 hrow hb2)
  obtain ⟨hs1, hs2, hs3⟩ := Row.bs_ hrow
  replace hL := hL.ext hb2
  have hb := hb.trans (hb2.mono hb.size)
  have hS := LqSend_calls w.heap.size g S0 _ [] [] (some ⟨w1.heap.size, 0, none⟩) (List.replicate 100 0) 100 100 w1.heap.size w2 hL hs3 (by simp) (by decide) (by decide) (by simp [maxLen]) (by decide)
  rw [List.nil_append, HWS.out] at hS
  clear hrow hs1 hs2 hs3 hb2 hL
  go_wp2_with fail
  refine hS.mono ?_
  rintro e w3 ⟨rfl, hL, hT, -⟩
  replace hb := hb.trans (hT.bel)
  have hK := LqTick_calls w.heap.size g _ _ ws [] 0 w3 hL (by decide) (by decide) (by decide) (by decide) (fun x hx => by rw [hst] at hx; have h1 := hxm x hx; have h2 := hw64 x.p h1.2.2.1; exact ⟨by omega, h2, by omega, by omega⟩) (by simp) (by simp; omega) (by rw [hst]; show xs.length ≤ 1000; omega) (by decide) (fun _ => rfl)
  clear hS hT hL
  go_wp2_with fail
  refine hK.mono ?_
  rintro e w4 ⟨vo, rfl, ⟨us, ⟨hL, hT, -⟩, hvo, hI⟩⟩
  clear hK
  rw [hst] at hL hI
  have hun : us.length = 2 := by rw [hI.1, List.length_map]; exact hz1
  obtain ⟨A1, c1, b1, hvo1, -⟩ := ownsP_sl hvo
  rw [hun] at hvo1
  subst hvo1
  have htk : xs.map (tickK 0) = xs.map fun x => { x with sent := true, at_ := 0 } := List.map_congr_left fun x hx => tick_new 0 (hxm x hx).1
  obtain ⟨ys, hys⟩ : ∃ ys, ys = xs.map (tickK 0) := ⟨_, rfl⟩
  have hym : ∀ y ∈ ys, y.sent = true ∧ y.at_ = 0 ∧ y.seq < 65536 ∧ y.p.data.length ≤ 64 := by
    rw [hys, htk]
    intro y hy
    obtain ⟨x, hx, rfl⟩ := List.mem_map.1 hy
    have h1 := hxm x hx
    exact ⟨rfl, rfl, by simp only; omega, hw64 x.p h1.2.2.1⟩
  have hyl : ys.length = 2 := by rw [hys, List.length_map]; exact hxl
  rw [← hys] at hL
  replace hb := hb.trans (hT.bel)
  have hn0 : sendsK 1 ⟨3, ws.length, 0, 0, false, false⟩ ys = [] := sends_none 1 _ ys (fun y hy => by have h1 := hym y hy; exact ⟨h1.1, by omega⟩)
  have hys2 : ys.map (tickK 1) = ys := (List.map_congr_left fun y hy => tick_same 1 (by have h1 := hym y hy; exact ⟨h1.1, by omega⟩)).trans (List.map_id ys)
  have hK := LqTick_calls w.heap.size g _ _ [] ys 1 w4 hL (show (3 : Nat) < 65536 by decide) (show ws.length < 65536 by omega) (show (0 : Nat) < 65536 by decide) (show (0 : Nat) < 4294967296 by decide) (fun y hy => by have h1 := hym y hy; exact ⟨h1.2.2.1, h1.2.2.2, by omega, by omega⟩) (fun y hy => (hym y hy).2.2.1) (by simp; omega) (by show ys.length ≤ 1000; omega) (by decide) (fun _ => rfl)
  clear hT hL hvo hI htk hxm hys
  go_wp2_with fail
  refine hK.mono ?_
  rintro e w5 ⟨vo5, rfl, ⟨us5, ⟨hL, hT, -⟩, hvo, hI⟩⟩
  rw [show (startK [] ws.length ys).2.2 = ys from rfl] at hL hI
  rw [hn0] at hI
  rw [hys2] at hL
  have hun5 : us5.length = 0 := hI.1
  obtain ⟨A2, c2, b2, hvo1, -⟩ := ownsP_sl hvo
  rw [hun5] at hvo1
  subst hvo1
  replace hb := hb.trans (hT.bel)
  have hE := LqEpoch_calls w.heap.size g _ _ _ _ w5 hL
  have hF := LqFlying_calls w.heap.size g _ _ _ _ w5 hL
  rw [hyl] at hF
  have HB := Lib.hid hb
  clear hK hT hL hvo hI hn0 hys2 hym hb
  go_wp2_with fail
  refine hE.mono ?_
  rintro e w6 ⟨rfl, e6⟩
  subst e6
  clear hE
  go_wp2_with fail
  refine hF.mono ?_
  rintro e w7 ⟨rfl, e7⟩
  subst e7
  clear hF
  go_wp2_with fail
  go_ret
  exact ⟨rfl, HB.out⟩
end Go.Proofs.YtgpedkdebifooaaDoor
namespace Go.Proofs.YtgpedkdebifooaaDoor
open Go.RowKit
set_option linter.unusedVariables false

def bytesN (m b : Nat) : List UInt8 := (List.range m).map fun i => UInt8.ofNat (b + i)
@[simp] theorem bytesN_length (m b : Nat) : (bytesN m b).length = m := by simp [bytesN]
def bytesTo (m b k : Nat) : List UInt8 := bytesN k b ++ List.replicate (m - k) 0
theorem bytesTo_length (m b k : Nat) (hk : k ≤ m) : (bytesTo m b k).length = m := by simp [bytesTo]; omega
theorem bytesTo_set (m b k : Nat) (hk : k < m) : (bytesTo m b k).set k (UInt8.ofNat (b + k)) = bytesTo m b (k + 1) := by
  unfold bytesTo
  obtain ⟨r, hr⟩ : ∃ r, m - k = r + 1 := ⟨m - k - 1, by omega⟩
  rw [List.set_append_right _ _ (by simp), bytesN_length, Nat.sub_self, hr, List.replicate_succ, List.set_cons_zero, show m - (k + 1) = r by omega]
  simp [bytesN, List.range_succ]
set_option maxRecDepth 20000 in
theorem wpList_mkU (w : World) {ops : Array Oper} {rest : List Oper} {o : Oper} {a : Act} {Q : Exit → Act → World → Prop} (hgd : o.guard = none) (l c : Operand) (ho : o.op = .makeSlice 31 l c) (n : Nat) (L : Int) (hL : L = (n : Int)) (hl : a.eval l = .int .u16 L) (hc : a.eval c = .int .u16 L) (hn : n ≤ 1000000)
    (h : ∀ w', Row w' w.heap.size (.slice (some ⟨w.heap.size, 0, none⟩) n n) (List.replicate n 0) → Below w.heap.size w w' → wpList Tryd.prog ops Q rest (a.put o.dst (.slice (some ⟨w.heap.size, 0, none⟩) n n)) w') : wpList Tryd.prog ops Q (o :: rest) a w := by
  subst hL
  refine wpList_plain hgd fun K hK => ?_
  obtain ⟨i0, hi0, hz0, hz1, hz2⟩ := info_parts u8_info
  obtain ⟨w', hrun, r1, r2⟩ := run_make_full (P := Tryd.prog) w w.heap.size 31 5 i0 _ 1 Tryd.underlying31 hi0 hz0 hz1 .u16 .u16 n (by rw [hz2]; omega) (by simp only [maxLen]; omega) (Nat.le_refl _)
  rw [bv_zeros] at r1
  unfold Oper.wp
  simp [execOp, ho, hl, hc, hrun, Result.andThen]
  exact hK _ _ (h w' (by unfold Row; simpa using r1) ((Mod.of_grown r2).below (Nat.le_refl _) (fun i _ h => by cases h)))
set_option maxHeartbeats 8000000 in
set_option maxRecDepth 20000 in
theorem bytes_calls (n b : Nat) (w : World) (hn : n ≤ 65535) (hb : b ≤ 255) :
    Calls Tryd.prog 14 #[.int .u16 (n : Int), .int .u8 (b : Int)] w fun e w' => ∃ c bb, e = .returned (.slice (some ⟨bb, 0, none⟩) (n % 1100) c) ∧ n % 1100 ≤ c ∧ c ≤ maxLen ∧ Bs w' bb (some ⟨bb, 0, none⟩) (bytesN (n % 1100) b) ∧ Below w.heap.size w w' := by
  obtain ⟨m, hm⟩ : ∃ m, m = n % 1100 := ⟨_, rfl⟩
  have hmi : (n : Int) % 1100 = (m : Int) := by omega
  have hm1 : m < 1100 := by omega
  rw [← hm]
  clear hm
  go_enter Tryd.func14, Tryd.ntmps14
  go_wp2_with (refine at_mk 31 _ _ ?_; refine wpList_mkU w rfl _ _ rfl m _ hmi rfl rfl (by omega) ?_; intro w2 hrow hb2)
  obtain ⟨g, hg⟩ : ∃ g, g = w.heap.size := ⟨_, rfl⟩
  have hr0 : Row w2 g (.slice (some ⟨g, 0, none⟩) m m) (bytesTo m b 0) := by rw [hg]; simpa [bytesTo, bytesN] using hrow
  rw [← hg]
  have hgw : w.heap.size ≤ g := by omega
  clear hrow hg
  go_loopw [12] (fun i wr => ∃ k : Nat, k ≤ m ∧ i = .int .i64 k ∧ Row wr g (.slice (some ⟨g, 0, none⟩) m m) (bytesTo m b k) ∧ Below w.heap.size w wr) (fun i _ => m - (intOf i).toNat)
  case atStart => exact ⟨0, Nat.zero_le _, rfl, hr0, hb2⟩
  case round =>
    clear hr0 hb2
    obtain ⟨k, hk, rfl, hr, hbr⟩ := hrel
    by_cases hlt : k < m
    · obtain ⟨g', cap, hv, hBg, hgl, hc, hf, hset⟩ := Row.set_ hr (k := k) (by rw [bytesTo_length m b k hk]; exact hlt)
      injection hv with hA e1 e2
      injection hA with hA
      injection hA with hA
      subst hA
      clear e1 e2 hc
      have hnx := bytesTo_set m b k hlt
      obtain ⟨y, hy⟩ : ∃ y, y = UInt8.ofNat (b + k) := ⟨_, rfl⟩
      have hyv : ((b : Int) + (k : Int) % 256) % 256 = (y.toNat : Int) := by rw [hy, UInt8.toNat_ofNat']; omega
      have hyv2 : ((b : Int) + (k : Int)) % 256 = (y.toNat : Int) := by rw [hy, UInt8.toNat_ofNat']; omega
      rw [← hy] at hnx
      have HR := Lib.hid ((hset y y.toNat _ rfl rfl).cast hnx)
      have HB := Lib.hid (hbr.setCell (p := ⟨g, k, none⟩) hgw (.int .u8 (y.toNat : Int)))
      obtain ⟨u0, hu0⟩ : ∃ u, wr.cell? ⟨g, k, none⟩ = some u := by
        obtain ⟨oa, hA, hca⟩ := Bs.at_ (Row.bs_ hr).2.2 (k := k) (by rw [bytesTo_length m b k hk]; exact hlt)
        injection hA with hA
        injection hA with _ hA _
        subst hA
        exact ⟨_, by have := hca k (by rw [bytesTo_length m b k hk]; exact hlt); simpa using this⟩
      clear hset hr hbr hnx hy
      go_wp2_with fail
      go_roundw
      case rel => exact ⟨k + 1, by omega, by go_num, HR.out, HB.out⟩
      case measure => simp [intOf]; omega
    · obtain rfl : k = m := by omega
      have hs := (Row.bs_ hr).2.2
      have e : bytesTo k b k = bytesN k b := by simp [bytesTo]
      rw [e] at hs
      clear hr e
      go_wp2_with fail
      go_ret
      exact ⟨k, g, rfl, Nat.le_refl _, by simp only [maxLen]; omega, hs, hbr⟩
end Go.Proofs.YtgpedkdebifooaaDoor
namespace Go.Proofs.YtgpedkdebifooaaDoor
open Go.RowKit
set_option linter.unusedVariables false

abbrev newL (ep n : Nat) : Lk := ⟨ep, n, 0, 0, false, false⟩
def firstF (ep : Nat) (ws : List Pc) : List Fr := (flyF ws 0).map (frK (newL ep 0))
def firstX (ws : List Pc) : List Fn := (flyF ws 0).map (tickK 0)
theorem firstF_length (ep : Nat) (ws : List Pc) : (firstF ep ws).length = ws.length := by simp [firstF, flyF_length]
theorem firstX_length (ws : List Pc) : (firstX ws).length = ws.length := by simp [firstX, flyF_length]
theorem firstF_ok {ep : Nat} {ws : List Pc} (hep : ep < 65536) (hw : ws.length ≤ 32) (h64 : ∀ p ∈ ws, p.data.length ≤ 64) : ∀ f ∈ firstF ep ws, f.Ok ∧ f.right = true ∧ f.epoch = ep := by
  intro f hf
  obtain ⟨x, hx, rfl⟩ := List.mem_map.1 hf
  have h1 := flyF_mem hx
  exact ⟨⟨hep, by show x.seq < 65536; omega, by show 0 < 65536; omega, by show 0 < 4294967296; omega⟩, decide_eq_true (h64 x.p h1.2.2.1), rfl⟩
theorem firstX_mem {ws : List Pc} : ∀ y ∈ firstX ws, y.sent = true ∧ y.at_ = 0 ∧ y.seq < ws.length ∧ y.p ∈ ws := by
  intro y hy
  obtain ⟨x, hx, rfl⟩ := List.mem_map.1 hy
  have h1 := flyF_mem hx
  rw [tick_new 0 h1.1]
  exact ⟨rfl, rfl, by show x.seq < ws.length; omega, h1.2.2.1⟩
/-- The frames told, as they lie. -/
structure Told (w : World) (C : Nat) (A : Option Addr) (n c : Nat) (us : List Value) (fs : List Fr) : Prop where
  row : RowS w C (.slice A n c) us
  ins : RowsIn w C us (fs.map fun f => sealedL f.raw)
  len : fs.length = n
theorem Told.ext {w w' : World} {C n c : Nat} {A : Option Addr} {us : List Value} {fs : List Fr} (h : Told w C A n c us fs) (hm : Below w.heap.size w w') : Told w' C A n c us fs := ⟨h.row.ext hm, h.ins.ext hm, h.len⟩
theorem Told.keep {w w' : World} {B C n c : Nat} {A : Option Addr} {us : List Value} {fs : List Fr} (h : Told w C A n c us fs) (hm : TMods LTs B w w') : Told w' C A n c us fs := ⟨hm.own h.row (by decide), hm.rowsIn h.ins (by decide), h.len⟩
theorem Told.at_ {w : World} {C n c : Nat} {A : Option Addr} {us : List Value} {fs : List Fr} (h : Told w C A n c us fs) {k : Nat} (hk : k < n) :
    ∃ g oa f A2 m c2 b2, A = some ⟨g, oa, none⟩ ∧ f ∈ fs ∧ w.cell? ⟨g, oa + k, none⟩ = some (.slice A2 m c2) ∧ (sealedL f.raw).length = m ∧ m ≤ c2 ∧ Bs w b2 A2 (sealedL f.raw) := by
  have hkf : k < fs.length := by rw [h.len]; exact hk
  obtain ⟨u, hu, hr⟩ := h.ins.2 k (sealedL (fs[k]).raw) (by rw [List.getElem?_map, List.getElem?_eq_getElem hkf]; rfl)
  obtain ⟨A2, c2, b2, rfl, hc, -, -, -, hs, -⟩ := hr.sl
  obtain ⟨A3, c3, b, hv, -, -, -, hsl, -⟩ := RowS.sl h.row
  injection hv with e1 e2 e3
  subst e1
  obtain ⟨oa, e4, hca⟩ := hsl (by rintro rfl; simp at hu)
  subst e4
  exact ⟨_, _, fs[k], A2, _, c2, b2, rfl, List.getElem_mem hkf, hca k _ hu, rfl, hc, hs⟩
/-- Two links apart. -/
def LP (w : World) (Ba ga : Nat) (La : Lk) (wa : List Pc) (xa : List Fn) (Bb gb : Nat) (Lb : Lk) (wb : List Pc) (xb : List Fn) : Prop :=
  ∃ Sa Sb : Nat → Prop, Lq Ba ga Sa w La wa xa ∧ Lq Bb gb Sb w Lb wb xb ∧ ∀ i, Sa i → ¬ Sb i
variable {w w' : World} {Ba ga : Nat} {La La' : Lk} {wa wa' : List Pc} {xa xa' : List Fn} {Bb gb : Nat} {Lb : Lk} {wb : List Pc} {xb : List Fn}
theorem LP.symm (h : LP w Ba ga La wa xa Bb gb Lb wb xb) : LP w Bb gb Lb wb xb Ba ga La wa xa := by
  obtain ⟨Sa, Sb, ha, hb, d⟩ := h
  exact ⟨Sb, Sa, hb, ha, fun i h1 h2 => d i h2 h1⟩
theorem LP.ext (h : LP w Ba ga La wa xa Bb gb Lb wb xb) (hm : Below w.heap.size w w') : LP w' Ba ga La wa xa Bb gb Lb wb xb := by
  obtain ⟨Sa, Sb, ha, hb, d⟩ := h
  exact ⟨Sa, Sb, ha.ext hm, hb.ext hm, d⟩
theorem LP.step {Sa Sb : Nat → Prop} (hb : Lq Bb gb Sb w Lb wb xb) (d : ∀ i, Sa i → ¬ Sb i) (ho : LqO Ba ga Sa w w' La' wa' xa') : LP w' Ba ga La' wa' xa' Bb gb Lb wb xb :=
  ⟨grow Sa w w', Sb, ho.lq, hb.keep ho.mod ho.typ (fun i hi hh => d i hh hi), fun i hi hh => by
    rcases hi with hi | hi
    · exact d i hi hh
    · have := hb.lt i hh; omega⟩
/-- A second new link stands apart from the first. -/
theorem LP.new {Sa : Nat → Prop} (ha : Lq Ba ga Sa w La wa xa) (hm : Below w.heap.size w w') (hb : Lq w.heap.size gb (fun i => w.heap.size ≤ i ∧ i < w'.heap.size) w' Lb wb xb) : LP w' Ba ga La wa xa w.heap.size gb Lb wb xb :=
  ⟨Sa, _, ha.ext hm, hb, fun i h1 h2 => by have := ha.lt i h1; omega⟩
theorem LqNew_at (ep : Nat) (I : Int) (hI : I = (ep : Int)) (w : World) :
    Calls Tryd.prog 13 #[.int .u16 I] w fun e w' => ∃ g, e = .returned (.pointer (some ⟨g, 0, none⟩)) ∧ Lq w.heap.size g (fun i => w.heap.size ≤ i ∧ i < w'.heap.size) w' (newL ep 0) [] [] ∧ Below w.heap.size w w' := by
  subst hI
  exact LqNew_calls ep w
theorem bytes_at (n b : Nat) (I J : Int) (hI : I = (n : Int)) (hJ : J = (b : Int)) (w : World) (hn : n < 1100) (hb : b ≤ 255) :
    Calls Tryd.prog 14 #[.int .u16 I, .int .u8 J] w fun e w' => ∃ c bb, e = .returned (.slice (some ⟨bb, 0, none⟩) n c) ∧ n ≤ c ∧ c ≤ maxLen ∧ Bs w' bb (some ⟨bb, 0, none⟩) (bytesN n b) ∧ Below w.heap.size w w' := by
  subst hI hJ
  have h := bytes_calls n b w (by omega) hb
  rw [Nat.mod_eq_of_lt hn] at h
  exact h
theorem LPSend (h : LP w Ba ga La wa xa Bb gb Lb wb xb) (A : Option Addr) (l : List UInt8) (n c b : Nat) (hs : Bs w b A l) (hn : l.length = n) (h1024 : n ≤ 1024) (hc : n ≤ c) (hcm : c ≤ maxLen) (hroom : wa.length + cnt n ≤ 128) :
    Calls Tryd.prog 15 #[.pointer (some ⟨ga, 0, none⟩), .slice A n c] w fun e w' => e = .returned (.int .i64 0) ∧ LP w' Ba ga La (wa ++ splitP l) xa Bb gb Lb wb xb ∧ TMods LTs Ba w w' := by
  obtain ⟨Sa, Sb, ha, hb, d⟩ := h
  exact (LqSend_calls Ba ga Sa La wa xa A l n c b w ha hs hn h1024 hc hcm hroom).mono fun e w' ⟨he, ho⟩ => ⟨he, LP.step hb d ho, ho.typ⟩
theorem LPFirst {ep : Nat} (h : LP w Ba ga (newL ep 0) wa [] Bb gb Lb wb xb) (hep : ep < 65536) (hw : wa.length ≤ 32) (h64 : ∀ p ∈ wa, p.data.length ≤ 64) :
    Calls Tryd.prog 17 #[.pointer (some ⟨ga, 0, none⟩), .int .i64 0] w fun e w' => ∃ A c us, e = .returned (.slice A wa.length c) ∧ LP w' Ba ga (newL ep wa.length) [] (firstX wa) Bb gb Lb wb xb ∧ Told w' w.heap.size A wa.length c us (firstF ep wa) ∧ TMods LTs Ba w w' := by
  obtain ⟨Sa, Sb, ha, hb, d⟩ := h
  have hst := startK_new wa hw
  refine (LqTick_calls Ba ga Sa (newL ep 0) wa [] 0 w ha hep (show (0 : Nat) < 65536 by decide) (show (0 : Nat) < 65536 by decide) (show (0 : Nat) < 4294967296 by decide) (fun x hx => ?_) (by simp) (by simp; omega) (by rw [hst]; simp [flyF_length]; omega) (by decide) (fun _ => rfl)).mono ?_
  · rw [hst] at hx
    have h1 := flyF_mem hx
    exact ⟨by omega, h64 x.p h1.2.2.1, by omega, by omega⟩
  · rintro e w' ⟨vo, rfl, ⟨us, ho, hvo, hI⟩⟩
    rw [hst] at ho hI
    rw [sends_new 0 _ _ (fun x hx => (flyF_mem hx).1)] at hI
    have hul : us.length = wa.length := by rw [hI.1]; simp [flyF_length]
    have hvo2 := hvo
    obtain ⟨A1, c1, b1, hv, -⟩ := RowS.sl hvo2
    rw [hul] at hv
    subst hv
    exact ⟨A1, c1, us, rfl, LP.step hb d ho, ⟨hvo, hI, firstF_length ep wa⟩, ho.typ⟩
theorem LPNext {ep n : Nat} (h : LP w Ba ga (newL ep n) [] (firstX wa) Bb gb Lb wb xb) (hep : ep < 65536) (hn : n < 65536) (hw : wa.length ≤ 32) (h64 : ∀ p ∈ wa, p.data.length ≤ 64) :
    Calls Tryd.prog 17 #[.pointer (some ⟨ga, 0, none⟩), .int .i64 1] w fun e w' => ∃ A c, e = .returned (.slice A 0 c) ∧ LP w' Ba ga (newL ep n) [] (firstX wa) Bb gb Lb wb xb ∧ TMods LTs Ba w w' := by
  obtain ⟨Sa, Sb, ha, hb, d⟩ := h
  obtain ⟨ys, hys⟩ : ∃ ys, ys = firstX wa := ⟨_, rfl⟩
  have hym : ∀ y ∈ ys, y.sent = true ∧ y.at_ = 0 ∧ y.seq < wa.length ∧ y.p ∈ wa := by rw [hys]; exact firstX_mem
  have hyl : ys.length = wa.length := by rw [hys]; exact firstX_length wa
  rw [← hys] at ha ⊢
  have hn0 : sendsK 1 (newL ep n) ys = [] := sends_none 1 _ ys (fun y hy => by have h1 := hym y hy; exact ⟨h1.1, by omega⟩)
  have hys2 : ys.map (tickK 1) = ys := (List.map_congr_left fun y hy => tick_same 1 (by have h1 := hym y hy; exact ⟨h1.1, by omega⟩)).trans (List.map_id ys)
  refine (LqTick_calls Ba ga Sa (newL ep n) [] ys 1 w ha hep hn (show (0 : Nat) < 65536 by decide) (show (0 : Nat) < 4294967296 by decide) (fun y hy => by have h1 := hym y hy; exact ⟨by omega, h64 _ h1.2.2.2, by omega, by omega⟩) (fun y hy => by have h1 := hym y hy; omega) (by simp; omega) (by show ys.length ≤ 1000; omega) (by decide) (fun _ => rfl)).mono ?_
  rintro e w' ⟨vo, rfl, ⟨us, ho, hvo, hI⟩⟩
  rw [show (startK [] (newL ep n).nx ys).2.2 = ys from rfl] at ho hI
  rw [hn0] at hI
  rw [hys2] at ho
  have hul : us.length = 0 := hI.1
  obtain ⟨A1, c1, b1, hv, -⟩ := RowS.sl hvo
  rw [hul] at hv
  subst hv
  exact ⟨A1, c1, rfl, LP.step hb d ho, ho.typ⟩
theorem LPTakeOld (h : LP w Ba ga La wa xa Bb gb Lb wb xb) (f : Fr) (A : Option Addr) (n c b : Nat) (ho : f.Ok) (hr : f.right = true) (hs : Bs w b A (sealedL f.raw)) (hn : (sealedL f.raw).length = n) (hc : n ≤ c) (hep : La.ep < 65536) (hne : f.epoch ≠ La.ep) :
    Calls Tryd.prog 18 #[.pointer (some ⟨ga, 0, none⟩), .slice A n c] w fun e w' => e = .returned (.tuple #[.slice none 0 0, .int .i64 10]) ∧ Below w.heap.size w w' := by
  obtain ⟨Sa, Sb, ha, hb, d⟩ := h
  exact LqTakeOld_calls Ba ga Sa La wa xa f A n c b w ha ho hr hs hn hc hep hne
theorem LPFlying {n : Nat} (h : LP w Ba ga La wa xa Bb gb Lb wb xb) (hn : xa.length = n) :
    Calls Tryd.prog 25 #[.pointer (some ⟨ga, 0, none⟩)] w fun e w' => e = .returned (.int .i64 (n : Int)) ∧ w = w' := by
  obtain ⟨Sa, Sb, ha, hb, d⟩ := h
  rw [← hn]
  exact LqFlying_calls Ba ga Sa La wa xa w ha
theorem LPAcks {ep n : Nat} (h : LP w Ba ga (newL ep n) wa xa Bb gb Lb wb xb) :
    Calls Tryd.prog 26 #[.pointer (some ⟨ga, 0, none⟩)] w fun e w' => e = .returned (.agg #[.int .u16 0, .int .u32 0]) ∧ Below w.heap.size w w' := by
  obtain ⟨Sa, Sb, ha, hb, d⟩ := h
  exact LqAcks_calls Ba ga Sa _ wa xa w ha
end Go.Proofs.YtgpedkdebifooaaDoor
namespace Go.Proofs.YtgpedkdebifooaaDoor
open Go.RowKit
set_option linter.unusedVariables false

theorem split_few {l : List UInt8} (h : l.length ≤ 500) : (splitP l).length ≤ 8 := by
  rw [splitP_length]
  unfold cnt
  split <;> omega
set_option maxHeartbeats 8000000 in
set_option maxRecDepth 20000 in
theorem LinkEpochs_walk (ep by_ n : Nat) (w : World) (h1 : ep ≤ 65535) (h2 : by_ ≤ 65535) (h3 : n ≤ 65535) :
    Calls Tryd.prog 11 #[.int .u16 (ep : Int), .int .u16 (by_ : Int), .int .u16 (n : Int)] w fun e w' => e = .returned (.bool true) ∧ Below w.heap.size w w' := by
  obtain ⟨e2, he2⟩ : ∃ e2, e2 = (ep + 1 + by_ % 65535) % 65536 := ⟨_, rfl⟩
  have hne : ep ≠ e2 := by omega
  have he3 : e2 < 65536 := by omega
  obtain ⟨ma, hma⟩ : ∃ ma, ma = n % 500 := ⟨_, rfl⟩
  obtain ⟨mb, hmb⟩ : ∃ mb, mb = n % 300 := ⟨_, rfl⟩
  have hma5 : ma < 500 := by omega
  have hmb3 : mb < 300 := by omega
  have HE2 := Lib.hid he2
  have HMA := Lib.hid hma
  have HMB := Lib.hid hmb
  clear he2 hma hmb
  go_enter Tryd.func11, Tryd.ntmps11
  go_wp2_with fail
  refine (awake_calls w).mono ?_
  rintro e w1 ⟨rfl, hb⟩
  go_wp2_with fail
  refine (LqNew_at ep _ rfl w1).mono ?_
  rintro e w2 ⟨ga, rfl, hla, hb2⟩
  have hs1 := hb.size
  replace hb := hb.trans (hb2.mono hb.size)
  clear hb2
  go_wp2_with fail
  refine (LqNew_at e2 _ (by rw [IntKind.wrap_u16, IntKind.wrap_u16]; have := HE2.out; omega) w2).mono ?_
  rintro e w3 ⟨gb, rfl, hlb, hb3⟩
  have hP := LP.new hla hb3 hlb
  have hs2 := hb.size
  replace hb := hb.trans (hb3.mono hb.size)
  clear hb3 hla hlb
  obtain ⟨Ba, hBa⟩ : ∃ Ba, Ba = w1.heap.size := ⟨_, rfl⟩
  obtain ⟨Bb, hBb⟩ : ∃ Bb, Bb = w2.heap.size := ⟨_, rfl⟩
  rw [← hBa, ← hBb] at hP
  rw [← hBa] at hs1
  rw [← hBb] at hs2
  clear hBa hBb
  have HP := Lib.hid hP
  clear hP
  go_wp2_with fail
  refine (bytes_at ma 1 _ _ (by have := HMA.out; omega) rfl w3 (by omega) (by decide)).mono ?_
  rintro e w4 ⟨ca, ba, rfl, hca, hcm, hBs, hbN⟩
  replace hb := hb.trans (hbN.mono hb.size)
  have HS := Lib.hid (LPSend (HP.out.ext hbN) (some ⟨ba, 0, none⟩) (bytesN ma 1) ma ca ba hBs (by simp) (by omega) hca hcm (by have := cnt_le ma (by omega); simp; omega))
  clear HP hBs hbN hca hcm
  go_wp2_with fail
  refine HS.out.mono ?_
  rintro e w5 ⟨rfl, hP, hT⟩
  replace hb := hb.trans (hT.bel.mono hs1)
  rw [List.nil_append] at hP
  obtain ⟨wa, hwa⟩ : ∃ wa, wa = splitP (bytesN ma 1) := ⟨_, rfl⟩
  have hwa8 : wa.length ≤ 8 := by rw [hwa]; exact split_few (by simp; omega)
  have hwa64 : ∀ p ∈ wa, p.data.length ≤ 64 := by rw [hwa]; exact split_small
  rw [← hwa] at hP
  have HP := Lib.hid hP
  have HWA := Lib.hid hwa64
  clear HS hP hT hwa hwa64
  go_wp2_with fail
  refine (bytes_at mb 2 _ _ (by have := HMB.out; omega) rfl w5 (by omega) (by decide)).mono ?_
  rintro e w6 ⟨cb, bb, rfl, hcb, hcm, hBs, hbN⟩
  replace hb := hb.trans (hbN.mono hb.size)
  have HS := Lib.hid (LPSend (HP.out.ext hbN).symm (some ⟨bb, 0, none⟩) (bytesN mb 2) mb cb bb hBs (by simp) (by omega) hcb hcm (by have := cnt_le mb (by omega); simp; omega))
  clear HP hBs hbN hcb hcm
  go_wp2_with fail
  refine HS.out.mono ?_
  rintro e w7 ⟨rfl, hP, hT⟩
  replace hb := hb.trans (hT.bel.mono hs2)
  rw [List.nil_append] at hP
  obtain ⟨wb, hwb⟩ : ∃ wb, wb = splitP (bytesN mb 2) := ⟨_, rfl⟩
  have hwb8 : wb.length ≤ 8 := by rw [hwb]; exact split_few (by simp; omega)
  have hwb64 : ∀ p ∈ wb, p.data.length ≤ 64 := by rw [hwb]; exact split_small
  rw [← hwb] at hP
  have HWB := Lib.hid hwb64
  have HK := Lib.hid (LPFirst hP.symm (by omega) (by omega) HWA.out)
  clear HS hP hT hwb hwb64
  go_wp2_with fail
  refine HK.out.mono ?_
  rintro e w8 ⟨A1, c1, ua, rfl, hP, hTa, hT⟩
  replace hb := hb.trans (hT.bel.mono hs1)
  have HK2 := Lib.hid (LPFirst hP.symm he3 (by omega) HWB.out)
  have HTA := Lib.hid hTa
  clear HK hP hT hTa
  go_wp2_with fail
  refine HK2.out.mono ?_
  rintro e w9 ⟨A2, c2, ub, rfl, hP, hTb, hT⟩
  replace hb := hb.trans (hT.bel.mono hs2)
  replace HTA := Lib.hid (HTA.out.keep hT)
  have HTB := Lib.hid hTb
  have HP := Lib.hid hP.symm
  clear HK2 hP hT hTb
  have HFA := Lib.hid (firstF_ok (ep := ep) (ws := wa) (by omega) (by omega) HWA.out)
  have HFB := Lib.hid (firstF_ok (ep := e2) (ws := wb) (by omega) (by omega) HWB.out)
  have hxa := firstX_length wa
  have hxb := firstX_length wb
  obtain ⟨fa, hfa⟩ : ∃ fa, fa = firstF ep wa := ⟨_, rfl⟩
  obtain ⟨fb, hfb⟩ : ∃ fb, fb = firstF e2 wb := ⟨_, rfl⟩
  rw [← hfa] at HTA HFA
  rw [← hfb] at HTB HFB
  obtain ⟨na, hna⟩ : ∃ na, na = wa.length := ⟨_, rfl⟩
  obtain ⟨nb, hnb⟩ : ∃ nb, nb = wb.length := ⟨_, rfl⟩
  rw [← hna] at HTA HP hxa hwa8 ⊢
  rw [← hnb] at HTB HP hxb hwb8 ⊢
  have HXA := Lib.hid hxa
  have HXB := Lib.hid hxb
  have HNA := Lib.hid hna
  have HNB := Lib.hid hnb
  clear hfa hfb hna hnb hxa hxb
  have HB := Lib.hid hb
  have hws := hb.size
  clear hb
  go_wp2_with fail
  go_loopw [45] (fun i wr => ∃ k : Nat, k ≤ na ∧ i = .int .i64 k ∧ Below w9.heap.size w9 wr) (fun i _ => na - (intOf i).toNat)
  case atStart => exact ⟨0, Nat.zero_le _, rfl, Below.refl _ _⟩
  case round =>
    obtain ⟨k, hk, rfl, hb⟩ := hrel
    by_cases hlt : k < na
    · obtain ⟨g, oa, f, A5, m5, c5, b5, hA, hf, ca, hl5, hc5, hs5⟩ := (HTA.out.ext hb).at_ hlt
      subst hA
      obtain ⟨ho, hr, he⟩ := HFA.out f hf
      have HT := Lib.hid (LPTakeOld (HP.out.symm.ext hb) f A5 m5 c5 b5 ho hr hs5 hl5 hc5 (by show e2 < 65536; omega) (by rw [he]; show ep ≠ e2; omega))
      clear hf hl5 hc5 hs5 ho hr he
      go_wp2_with fail
      refine HT.out.mono ?_
      rintro e wt ⟨rfl, hbt⟩
      have hbn := hb.trans (hbt.mono hb.size)
      clear HT hbt hb ca
      go_wp2_with fail
      go_roundw
      case rel => exact ⟨k + 1, by omega, by go_num, hbn⟩
      case measure => simp [intOf]; omega
    · obtain rfl : k = na := by omega
      clear hlt
      have HPL := Lib.hid (HP.out.ext hb)
      have HTBL := Lib.hid (HTB.out.ext hb)
      have HBL := Lib.hid (HB.out.trans (hb.mono hws))
      clear hb
      go_wp2_with fail
      obtain ⟨wl, hwl⟩ : ∃ wl, wl = wr := ⟨_, rfl⟩
      subst hwl
      go_loopw [65] (fun i wr => ∃ k : Nat, k ≤ nb ∧ i = .int .i64 k ∧ Below wl.heap.size wl wr) (fun i _ => nb - (intOf i).toNat)
      case atStart => exact ⟨0, Nat.zero_le _, rfl, Below.refl _ _⟩
      case round =>
        obtain ⟨k, hk, rfl, hb⟩ := hrel
        by_cases hlt : k < nb
        · obtain ⟨g, oa, f, A5, m5, c5, b5, hA, hf, ca, hl5, hc5, hs5⟩ := (HTBL.out.ext hb).at_ hlt
          subst hA
          obtain ⟨ho, hr, he⟩ := HFB.out f hf
          have HT := Lib.hid (LPTakeOld (HPL.out.ext hb) f A5 m5 c5 b5 ho hr hs5 hl5 hc5 (by show ep < 65536; omega) (by rw [he]; show e2 ≠ ep; omega))
          clear hf hl5 hc5 hs5 ho hr he
          go_wp2_with fail
          refine HT.out.mono ?_
          rintro e wt ⟨rfl, hbt⟩
          have hbn := hb.trans (hbt.mono hb.size)
          clear HT hbt hb ca
          go_wp2_with fail
          go_roundw
          case rel => exact ⟨k + 1, by omega, by go_num, hbn⟩
          case measure => simp [intOf]; omega
        · obtain rfl : k = nb := by omega
          clear hlt
          have HPM := HPL.out.ext hb
          have HBM := Lib.hid (HBL.out.trans (hb.mono HBL.out.size))
          clear hb
          have HF1 := Lib.hid (LPFlying HPM HXA.out)
          have HF2 := Lib.hid (LPFlying HPM.symm HXB.out)
          have HPM := Lib.hid HPM
          go_wp2_with fail
          refine HF1.out.mono ?_
          rintro e wf ⟨rfl, e7⟩
          subst e7
          clear HF1
          go_wp2_with fail
          refine HF2.out.mono ?_
          rintro e wf ⟨rfl, e7⟩
          subst e7
          clear HF2
          go_wp2_with fail
          refine (LPAcks HPM.out).mono ?_
          rintro e wg ⟨rfl, hg⟩
          replace HBM := Lib.hid (HBM.out.trans (hg.mono HBM.out.size))
          replace HPM := Lib.hid (HPM.out.ext hg)
          clear hg
          go_wp2_with fail
          refine (LPAcks HPM.out.symm).mono ?_
          rintro e wh ⟨rfl, hh⟩
          replace HBM := Lib.hid (HBM.out.trans (hh.mono HBM.out.size))
          replace HPM := Lib.hid (HPM.out.ext hh)
          clear hh
          go_wp2_with fail
          refine (LPNext HPM.out (by omega) (by omega) (by rw [← HNA.out]; omega) HWA.out).mono ?_
          rintro e wi ⟨A7, c7, rfl, hP, hT⟩
          replace HBM := Lib.hid (HBM.out.trans (hT.bel.mono hs1))
          replace HPM := Lib.hid hP
          clear hP hT
          go_wp2_with fail
          refine (LPNext HPM.out.symm he3 (by omega) (by rw [← HNB.out]; omega) HWB.out).mono ?_
          rintro e wj ⟨A8, c8, rfl, hP, hT⟩
          replace HBM := Lib.hid (HBM.out.trans (hT.bel.mono hs2))
          clear hP hT
          go_wp2_with fail
          go_ret
          exact ⟨rfl, HBM.out⟩
end Go.Proofs.YtgpedkdebifooaaDoor
namespace Go.Proofs.YtgpedkdebifooaaDoor
open Go.RowKit

def tabZ : List Int := Lib.deBruijn32tab.map Int.ofNat
/-- A world in which the table lies as it is laid. -/
noncomputable def laidWorld (os : Os) : World :=
  { World.holding Tryd.prog os ⟨#[], #[], []⟩ with heap := (World.holding Tryd.prog os ⟨#[], #[], []⟩).heap.modify 0 fun
      | .cells _ t frozen => .cells (tabZ.map fun z => Value.int .u8 z).toArray t frozen
      | o => o }
end Go.Proofs.YtgpedkdebifooaaDoor
