/- Parts of one proof, in their order. -/
import Derived.Test.YtcgbamkfflcdfaaDoorZLkBasf06
import Derived.OwnWalk
import Derived.Test.YtcgbamkfflcdfaaDoorRows
import Derived.ProofKit
import Derived.OpenShut
import Derived.ShutString
import Derived.ChangeOld
import Derived.Deep.Fields
import Derived.BigQuiet
import Derived.Lib.LaidTab
/- Two links apart; a link's first tick and its second. Conditions: those said. -/
namespace Go.Proofs.YtcgbamkfflcdfaaDoor
open Go.RowKit
set_option linter.unusedVariables false

abbrev newL (ep n : Nat) : Lk := ⟨ep, n, 0, 0, false, false⟩
def firstF (ep : Nat) (ws : List Pc) : List Fr := (flyF ws 0).map (frK (newL ep 0))
def firstX (ws : List Pc) : List Fn := (flyF ws 0).map (tickK 0)
theorem firstF_length (ep : Nat) (ws : List Pc) : (firstF ep ws).length = ws.length := by simp [firstF, flyF_length]
theorem firstX_length (ws : List Pc) : (firstX ws).length = ws.length := by simp [firstX, flyF_length]
theorem firstF_ok {ep : Nat} {ws : List Pc} (hep : ep < 65536) (hw : ws.length ≤ 32) (h64 : ∀ p ∈ ws, p.data.length ≤ 64) : ∀ f ∈ firstF ep ws, f.Ok ∧ f.right = true ∧ f.epoch = ep := by
  intro f hf
  obtain ⟨x, hx, rfl⟩ := List.mem_map.1 hf
  have h1 := flyF_mem hx
  exact ⟨⟨hep, by show x.seq < 65536; omega, by show 0 < 65536; omega, by show 0 < 4294967296; omega⟩, decide_eq_true (h64 x.p h1.2.2.1), rfl⟩
theorem firstX_mem {ws : List Pc} : ∀ y ∈ firstX ws, y.sent = true ∧ y.at_ = 0 ∧ y.seq < ws.length ∧ y.p ∈ ws := by
  intro y hy
  obtain ⟨x, hx, rfl⟩ := List.mem_map.1 hy
  have h1 := flyF_mem hx
  rw [tick_new 0 h1.1]
  exact ⟨rfl, rfl, by show x.seq < ws.length; omega, h1.2.2.1⟩
/-- The frames told, as they lie. -/
structure Told (w : World) (C : Nat) (A : Option Addr) (n c : Nat) (us : List Value) (fs : List Fr) : Prop where
  row : RowS w C (.slice A n c) us
  ins : RowsIn w C us (fs.map fun f => sealedL f.raw)
  len : fs.length = n
theorem Told.ext {w w' : World} {C n c : Nat} {A : Option Addr} {us : List Value} {fs : List Fr} (h : Told w C A n c us fs) (hm : Below w.heap.size w w') : Told w' C A n c us fs := ⟨h.row.ext hm, h.ins.ext hm, h.len⟩
theorem Told.keep {w w' : World} {B C n c : Nat} {A : Option Addr} {us : List Value} {fs : List Fr} (h : Told w C A n c us fs) (hm : TMods LTs B w w') : Told w' C A n c us fs := ⟨hm.own h.row (by decide), hm.rowsIn h.ins (by decide), h.len⟩
theorem Told.at_ {w : World} {C n c : Nat} {A : Option Addr} {us : List Value} {fs : List Fr} (h : Told w C A n c us fs) {k : Nat} (hk : k < n) :
    ∃ g oa f A2 m c2 b2, A = some ⟨g, oa, none⟩ ∧ f ∈ fs ∧ w.cell? ⟨g, oa + k, none⟩ = some (.slice A2 m c2) ∧ (sealedL f.raw).length = m ∧ m ≤ c2 ∧ Bs w b2 A2 (sealedL f.raw) := by
  have hkf : k < fs.length := by rw [h.len]; exact hk
  obtain ⟨u, hu, hr⟩ := h.ins.2 k (sealedL (fs[k]).raw) (by rw [List.getElem?_map, List.getElem?_eq_getElem hkf]; rfl)
  obtain ⟨A2, c2, b2, rfl, hc, -, -, -, hs, -⟩ := hr.sl
  obtain ⟨A3, c3, b, hv, -, -, -, hsl, -⟩ := RowS.sl h.row
  injection hv with e1 e2 e3
  subst e1
  obtain ⟨oa, e4, hca⟩ := hsl (by rintro rfl; simp at hu)
  subst e4
  exact ⟨_, _, fs[k], A2, _, c2, b2, rfl, List.getElem_mem hkf, hca k _ hu, rfl, hc, hs⟩
/-- Two links apart. -/
def LP (w : World) (Ba ga : Nat) (La : Lk) (wa : List Pc) (xa : List Fn) (Bb gb : Nat) (Lb : Lk) (wb : List Pc) (xb : List Fn) : Prop :=
  ∃ Sa Sb : Nat → Prop, Lq Ba ga Sa w La wa xa ∧ Lq Bb gb Sb w Lb wb xb ∧ ∀ i, Sa i → ¬ Sb i
variable {w w' : World} {Ba ga : Nat} {La La' : Lk} {wa wa' : List Pc} {xa xa' : List Fn} {Bb gb : Nat} {Lb : Lk} {wb : List Pc} {xb : List Fn}
theorem LP.symm (h : LP w Ba ga La wa xa Bb gb Lb wb xb) : LP w Bb gb Lb wb xb Ba ga La wa xa := by
  obtain ⟨Sa, Sb, ha, hb, d⟩ := h
  exact ⟨Sb, Sa, hb, ha, fun i h1 h2 => d i h2 h1⟩
theorem LP.ext (h : LP w Ba ga La wa xa Bb gb Lb wb xb) (hm : Below w.heap.size w w') : LP w' Ba ga La wa xa Bb gb Lb wb xb := by
  obtain ⟨Sa, Sb, ha, hb, d⟩ := h
  exact ⟨Sa, Sb, ha.ext hm, hb.ext hm, d⟩
theorem LP.step {Sa Sb : Nat → Prop} (hb : Lq Bb gb Sb w Lb wb xb) (d : ∀ i, Sa i → ¬ Sb i) (ho : LqO Ba ga Sa w w' La' wa' xa') : LP w' Ba ga La' wa' xa' Bb gb Lb wb xb :=
  ⟨grow Sa w w', Sb, ho.lq, hb.keep ho.mod ho.typ (fun i hi hh => d i hh hi), fun i hi hh => by
    rcases hi with hi | hi
    · exact d i hi hh
    · have := hb.lt i hh; omega⟩
/-- A second new link stands apart from the first. -/
theorem LP.new {Sa : Nat → Prop} (ha : Lq Ba ga Sa w La wa xa) (hm : Below w.heap.size w w') (hb : Lq w.heap.size gb (fun i => w.heap.size ≤ i ∧ i < w'.heap.size) w' Lb wb xb) : LP w' Ba ga La wa xa w.heap.size gb Lb wb xb :=
  ⟨Sa, _, ha.ext hm, hb, fun i h1 h2 => by have := ha.lt i h1; omega⟩
theorem LqNew_at (ep : Nat) (I : Int) (hI : I = (ep : Int)) (w : World) :
    Calls Tryd.prog 13 #[.int .u16 I] w fun e w' => ∃ g, e = .returned (.pointer (some ⟨g, 0, none⟩)) ∧ Lq w.heap.size g (fun i => w.heap.size ≤ i ∧ i < w'.heap.size) w' (newL ep 0) [] [] ∧ Below w.heap.size w w' := by
  subst hI
  exact LqNew_calls ep w
theorem bytes_at (n b : Nat) (I J : Int) (hI : I = (n : Int)) (hJ : J = (b : Int)) (w : World) (hn : n < 1100) (hb : b ≤ 255) :
    Calls Tryd.prog 14 #[.int .u16 I, .int .u8 J] w fun e w' => ∃ c bb, e = .returned (.slice (some ⟨bb, 0, none⟩) n c) ∧ n ≤ c ∧ c ≤ maxLen ∧ Bs w' bb (some ⟨bb, 0, none⟩) (bytesN n b) ∧ Below w.heap.size w w' := by
  subst hI hJ
  have h := bytes_calls n b w (by omega) hb
  rw [Nat.mod_eq_of_lt hn] at h
  exact h
theorem LPSend (h : LP w Ba ga La wa xa Bb gb Lb wb xb) (A : Option Addr) (l : List UInt8) (n c b : Nat) (hs : Bs w b A l) (hn : l.length = n) (h1024 : n ≤ 1024) (hc : n ≤ c) (hcm : c ≤ maxLen) (hroom : wa.length + cnt n ≤ 128) :
    Calls Tryd.prog 15 #[.pointer (some ⟨ga, 0, none⟩), .slice A n c] w fun e w' => e = .returned (.int .i64 0) ∧ LP w' Ba ga La (wa ++ splitP l) xa Bb gb Lb wb xb ∧ TMods LTs Ba w w' := by
  obtain ⟨Sa, Sb, ha, hb, d⟩ := h
  exact (LqSend_calls Ba ga Sa La wa xa A l n c b w ha hs hn h1024 hc hcm hroom).mono fun e w' ⟨he, ho⟩ => ⟨he, LP.step hb d ho, ho.typ⟩
theorem LPFirst {ep : Nat} (h : LP w Ba ga (newL ep 0) wa [] Bb gb Lb wb xb) (hep : ep < 65536) (hw : wa.length ≤ 32) (h64 : ∀ p ∈ wa, p.data.length ≤ 64) :
    Calls Tryd.prog 17 #[.pointer (some ⟨ga, 0, none⟩), .int .i64 0] w fun e w' => ∃ A c us, e = .returned (.slice A wa.length c) ∧ LP w' Ba ga (newL ep wa.length) [] (firstX wa) Bb gb Lb wb xb ∧ Told w' w.heap.size A wa.length c us (firstF ep wa) ∧ TMods LTs Ba w w' := by
  obtain ⟨Sa, Sb, ha, hb, d⟩ := h
  have hst := startK_new wa hw
  refine (LqTick_calls Ba ga Sa (newL ep 0) wa [] 0 w ha hep (show (0 : Nat) < 65536 by decide) (show (0 : Nat) < 65536 by decide) (show (0 : Nat) < 4294967296 by decide) (fun x hx => ?_) (by simp) (by simp; omega) (by rw [hst]; simp [flyF_length]; omega) (by decide) (fun _ => rfl)).mono ?_
  · rw [hst] at hx
    have h1 := flyF_mem hx
    exact ⟨by omega, h64 x.p h1.2.2.1, by omega, by omega⟩
  · rintro e w' ⟨vo, rfl, ⟨us, ho, hvo, hI⟩⟩
    rw [hst] at ho hI
    rw [sends_new 0 _ _ (fun x hx => (flyF_mem hx).1)] at hI
    have hul : us.length = wa.length := by rw [hI.1]; simp [flyF_length]
    have hvo2 := hvo
    obtain ⟨A1, c1, b1, hv, -⟩ := RowS.sl hvo2
    rw [hul] at hv
    subst hv
    exact ⟨A1, c1, us, rfl, LP.step hb d ho, ⟨hvo, hI, firstF_length ep wa⟩, ho.typ⟩
theorem LPNext {ep n : Nat} (h : LP w Ba ga (newL ep n) [] (firstX wa) Bb gb Lb wb xb) (hep : ep < 65536) (hn : n < 65536) (hw : wa.length ≤ 32) (h64 : ∀ p ∈ wa, p.data.length ≤ 64) :
    Calls Tryd.prog 17 #[.pointer (some ⟨ga, 0, none⟩), .int .i64 1] w fun e w' => ∃ A c, e = .returned (.slice A 0 c) ∧ LP w' Ba ga (newL ep n) [] (firstX wa) Bb gb Lb wb xb ∧ TMods LTs Ba w w' := by
  obtain ⟨Sa, Sb, ha, hb, d⟩ := h
  obtain ⟨ys, hys⟩ : ∃ ys, ys = firstX wa := ⟨_, rfl⟩
  have hym : ∀ y ∈ ys, y.sent = true ∧ y.at_ = 0 ∧ y.seq < wa.length ∧ y.p ∈ wa := by rw [hys]; exact firstX_mem
  have hyl : ys.length = wa.length := by rw [hys]; exact firstX_length wa
  rw [← hys] at ha ⊢
  have hn0 : sendsK 1 (newL ep n) ys = [] := sends_none 1 _ ys (fun y hy => by have h1 := hym y hy; exact ⟨h1.1, by omega⟩)
  have hys2 : ys.map (tickK 1) = ys := (List.map_congr_left fun y hy => tick_same 1 (by have h1 := hym y hy; exact ⟨h1.1, by omega⟩)).trans (List.map_id ys)
  refine (LqTick_calls Ba ga Sa (newL ep n) [] ys 1 w ha hep hn (show (0 : Nat) < 65536 by decide) (show (0 : Nat) < 4294967296 by decide) (fun y hy => by have h1 := hym y hy; exact ⟨by omega, h64 _ h1.2.2.2, by omega, by omega⟩) (fun y hy => by have h1 := hym y hy; omega) (by simp; omega) (by show ys.length ≤ 1000; omega) (by decide) (fun _ => rfl)).mono ?_
  rintro e w' ⟨vo, rfl, ⟨us, ho, hvo, hI⟩⟩
  rw [show (startK [] (newL ep n).nx ys).2.2 = ys from rfl] at ho hI
  rw [hn0] at hI
  rw [hys2] at ho
  have hul : us.length = 0 := hI.1
  obtain ⟨A1, c1, b1, hv, -⟩ := RowS.sl hvo
  rw [hul] at hv
  subst hv
  exact ⟨A1, c1, rfl, LP.step hb d ho, ho.typ⟩
theorem LPTakeOld (h : LP w Ba ga La wa xa Bb gb Lb wb xb) (f : Fr) (A : Option Addr) (n c b : Nat) (ho : f.Ok) (hr : f.right = true) (hs : Bs w b A (sealedL f.raw)) (hn : (sealedL f.raw).length = n) (hc : n ≤ c) (hep : La.ep < 65536) (hne : f.epoch ≠ La.ep) :
    Calls Tryd.prog 18 #[.pointer (some ⟨ga, 0, none⟩), .slice A n c] w fun e w' => e = .returned (.tuple #[.slice none 0 0, .int .i64 10]) ∧ Below w.heap.size w w' := by
  obtain ⟨Sa, Sb, ha, hb, d⟩ := h
  exact LqTakeOld_calls Ba ga Sa La wa xa f A n c b w ha ho hr hs hn hc hep hne
theorem LPFlying {n : Nat} (h : LP w Ba ga La wa xa Bb gb Lb wb xb) (hn : xa.length = n) :
    Calls Tryd.prog 25 #[.pointer (some ⟨ga, 0, none⟩)] w fun e w' => e = .returned (.int .i64 (n : Int)) ∧ w = w' := by
  obtain ⟨Sa, Sb, ha, hb, d⟩ := h
  rw [← hn]
  exact LqFlying_calls Ba ga Sa La wa xa w ha
theorem LPAcks {ep n : Nat} (h : LP w Ba ga (newL ep n) wa xa Bb gb Lb wb xb) :
    Calls Tryd.prog 26 #[.pointer (some ⟨ga, 0, none⟩)] w fun e w' => e = .returned (.agg #[.int .u16 0, .int .u32 0]) ∧ Below w.heap.size w w' := by
  obtain ⟨Sa, Sb, ha, hb, d⟩ := h
  exact LqAcks_calls Ba ga Sa _ wa xa w ha
end Go.Proofs.YtcgbamkfflcdfaaDoor
/- A link in the laws' words, with all that it holds: New, Send, Tick, Take. Conditions: those said. -/
namespace Go.Proofs.YtcgbamkfflcdfaaDoor
open Go.RowKit
set_option linter.unusedVariables false

/-- A link, plainly. -/
structure Pk where
  L : Lk
  ws : List Pc
  xs : List Fn
  E : Nat → Option Pc
  hd : List UInt8
/-- What fits. -/
structure Pk.Ok (p : Pk) (m : Nat) : Prop where
  ep : p.L.ep < 65536
  nx : p.L.nx < 65536
  cn : p.L.cn < 65536
  cb : p.L.cb < 4294967296
  ws : ∀ x ∈ p.ws, x.data.length ≤ 64
  xs : ∀ x ∈ p.xs, x.seq < 65536 ∧ x.p.data.length ≤ 64 ∧ 0 ≤ x.at_ ∧ x.at_ ≤ 1000000
  len : p.ws.length + p.xs.length ≤ m
  hd : p.hd.length ≤ 1024
def newP (ep : Nat) : Pk := ⟨⟨ep, 0, 0, 0, false, false⟩, [], [], fun _ => none, []⟩
def sendP (p : Pk) (l : List UInt8) : Pk := { p with ws := p.ws ++ splitP l }
def tickP (now : Int) (p : Pk) : Pk := { p with L := { p.L with nx := (startK p.ws p.L.nx p.xs).1, ow := false }, ws := (startK p.ws p.L.nx p.xs).2.1, xs := (startK p.ws p.L.nx p.xs).2.2.map (tickK now) }
def dueP (now : Int) (p : Pk) : List Fr := sendsK now p.L (startK p.ws p.L.nx p.xs).2.2
def toldP (now : Int) (p : Pk) : List Fr := if dueP now p = [] ∧ p.L.ow = true then [aloneF p.L] else dueP now p
def goneN (f : Fr) (x : Fn) : Bool := hasN f.next f.bits x.seq
def keepX (f : Fr) (xs : List Fn) : List Fn := xs.filter fun x => !goneN f x
def firstK (p : Pk) (f : Fr) : Kp := ⟨fun u => if u = f.seq then some ⟨f.first, f.last, f.data⟩ else p.E u, ⟨p.hd, p.L.lv⟩, [], 0⟩
def takeP (p : Pk) (f : Fr) : Pk × List (List UInt8) × Nat :=
  if f.alone then ({ p with xs := keepX f p.xs }, [], 0)
  else match noteN p.L.cn p.L.cb f.seq with
    | none => ({ p with xs := keepX f p.xs, L := { p.L with ow := true } }, [], 0)
    | some (x, y) => ({ p with xs := keepX f p.xs, L := { p.L with cn := x, cb := y, lv := (drainK (firstK p f) p.L.cn (aheadN p.L.cn x)).k.leaving, ow := true }, E := (drainK (firstK p f) p.L.cn (aheadN p.L.cn x)).E, hd := (drainK (firstK p f) p.L.cn (aheadN p.L.cn x)).k.held }, (drainK (firstK p f) p.L.cn (aheadN p.L.cn x)).out, (drainK (firstK p f) p.L.cn (aheadN p.L.cn x)).err)
theorem drain_held {s : Kp} (h : s.k.held.length ≤ 1024) (t m : Nat) : (drainK s t m).k.held.length ≤ 1024 := by
  induction m with
  | zero => exact h
  | succ m ih => exact putB_held ih
/-! ### what fits goes on to fit -/
theorem newP_ok {ep : Nat} (h : ep < 65536) : (newP ep).Ok 0 := ⟨h, show (0 : Nat) < 65536 by decide, show (0 : Nat) < 65536 by decide, show (0 : Nat) < 4294967296 by decide, fun x hx => (by cases hx), fun x hx => (by cases hx), Nat.le_refl _, Nat.zero_le _⟩
theorem Pk.Ok.mono {p : Pk} {m m' : Nat} (h : p.Ok m) (hm : m ≤ m') : p.Ok m' := ⟨h.ep, h.nx, h.cn, h.cb, h.ws, h.xs, Nat.le_trans h.len hm, h.hd⟩
theorem sendP_ok {p : Pk} {m : Nat} (h : p.Ok m) (l : List UInt8) : (sendP p l).Ok (m + cnt l.length) := ⟨h.ep, h.nx, h.cn, h.cb, fun x hx => by
    rcases List.mem_append.1 hx with hx | hx
    · exact h.ws x hx
    · exact split_small x hx, h.xs, by have := h.len; show (p.ws ++ splitP l).length + p.xs.length ≤ _; rw [List.length_append, splitP_length]; omega, h.hd⟩
theorem startK_ok (ws : List Pc) (nx : Nat) (xs : List Fn) (hn : nx < 65536) (hw : ∀ x ∈ ws, x.data.length ≤ 64) (hx : ∀ x ∈ xs, x.seq < 65536 ∧ x.p.data.length ≤ 64 ∧ 0 ≤ x.at_ ∧ x.at_ ≤ 1000000) :
    (startK ws nx xs).1 < 65536 ∧ (∀ x ∈ (startK ws nx xs).2.1, x.data.length ≤ 64) ∧ (∀ x ∈ (startK ws nx xs).2.2, x.seq < 65536 ∧ x.p.data.length ≤ 64 ∧ 0 ≤ x.at_ ∧ x.at_ ≤ 1000000) ∧ (startK ws nx xs).2.1.length + (startK ws nx xs).2.2.length = ws.length + xs.length := by
  induction ws generalizing nx xs with
  | nil => exact ⟨hn, by simp [startK], hx, rfl⟩
  | cons x ws ih =>
    rw [startK]
    split
    · have h := ih ((nx + 1) % 65536) (xs ++ [⟨x, nx, false, 0⟩]) (Nat.mod_lt _ (by decide)) (fun y hy => hw y (List.mem_cons_of_mem _ hy)) (fun y hy => by
        rcases List.mem_append.1 hy with hy | hy
        · exact hx y hy
        · rw [List.mem_singleton] at hy
          rw [hy]
          exact ⟨hn, hw x (List.mem_cons_self ..), Int.le_refl 0, show (0 : Int) ≤ 1000000 by decide⟩)
      refine ⟨h.1, h.2.1, h.2.2.1, ?_⟩
      rw [h.2.2.2]
      simp
      omega
    · exact ⟨hn, hw, hx, rfl⟩
theorem tickP_ok {p : Pk} {m : Nat} (h : p.Ok m) (now : Int) (h0 : 0 ≤ now ∧ now ≤ 1000000) : (tickP now p).Ok m := by
  obtain ⟨h1, h2, h3, h4⟩ := startK_ok p.ws p.L.nx p.xs h.nx h.ws h.xs
  refine ⟨h.ep, h1, h.cn, h.cb, h2, fun x hx => ?_, ?_, h.hd⟩
  · obtain ⟨y, hy, rfl⟩ := List.mem_map.1 hx
    have h5 := h3 y hy
    unfold tickK
    split
    · exact ⟨h5.1, h5.2.1, h0.1, h0.2⟩
    · exact h5
  · show (startK p.ws p.L.nx p.xs).2.1.length + ((startK p.ws p.L.nx p.xs).2.2.map (tickK now)).length ≤ m
    rw [List.length_map, h4]
    exact h.len
theorem keepX_ok {f : Fr} {xs : List Fn} {x : Fn} (h : x ∈ keepX f xs) : x ∈ xs := (List.mem_filter.1 h).1
theorem keepX_len (f : Fr) (xs : List Fn) : (keepX f xs).length ≤ xs.length := List.length_filter_le _ _
theorem takeP_ok {p : Pk} {m : Nat} (h : p.Ok m) (f : Fr) : (takeP p f).1.Ok m := by
  have hx : ∀ x ∈ keepX f p.xs, x.seq < 65536 ∧ x.p.data.length ≤ 64 ∧ 0 ≤ x.at_ ∧ x.at_ ≤ 1000000 := fun x hx => h.xs x (keepX_ok hx)
  have hl : p.ws.length + (keepX f p.xs).length ≤ m := by have := keepX_len f p.xs; have := h.len; omega
  unfold takeP
  split
  · exact ⟨h.ep, h.nx, h.cn, h.cb, h.ws, hx, hl, h.hd⟩
  · split
    · exact ⟨h.ep, h.nx, h.cn, h.cb, h.ws, hx, hl, h.hd⟩
    · rename_i heq
      obtain ⟨h1, h2⟩ := noteN_lt h.cn h.cb heq
      exact ⟨h.ep, h.nx, h1, h2, h.ws, hx, hl, drain_held h.hd _ _⟩
/-! ### how it lies -/
/-- A link: all its blocks, and those of its pieces, are of S. -/
structure Lr (B g : Nat) (S : Nat → Prop) (w : World) (p : Pk) (n : Nat) : Prop where
  out : ∃ bm vw vf vh wv xv E, LM w B g bm p.L vw vf vh wv xv E p.hd n ∧ wv.map PV.p = p.ws ∧ xv.map Fl.n = p.xs ∧ plE E = p.E ∧ S g ∧ S bm ∧ (∀ i, vw.ownBlock = some i → S i) ∧ (∀ i, vf.ownBlock = some i → S i) ∧ (∀ i, vh.ownBlock = some i → S i) ∧ (∀ x ∈ wv, x.p.data ≠ [] → S x.b) ∧ (∀ x ∈ xv, x.p.p.data ≠ [] → S x.p.b) ∧ (∀ t x, E t = some x → x.p.data ≠ [] → S x.b)
  lt : ∀ i, S i → i < w.heap.size
  ge : ∀ i, S i → B ≤ i
theorem Lr.hg {B g : Nat} {S : Nat → Prop} {w : World} {p : Pk} {n : Nat} (h : Lr B g S w p n) : B ≤ g := by
  obtain ⟨bm, vw, vf, vh, wv, xv, E, hm, h1, h2, h3, h4, -⟩ := h.out
  exact h.ge g h4
theorem Lr.hB {B g : Nat} {S : Nat → Prop} {w : World} {p : Pk} {n : Nat} (h : Lr B g S w p n) : B ≤ w.heap.size := by
  obtain ⟨bm, vw, vf, vh, wv, xv, E, hm, -⟩ := h.out
  exact hm.s.hB
theorem Lr.ext {B g : Nat} {S : Nat → Prop} {w w' : World} {p : Pk} {n : Nat} (h : Lr B g S w p n) (hm : Below w.heap.size w w') : Lr B g S w' p n := by
  obtain ⟨bm, vw, vf, vh, wv, xv, E, q, r⟩ := h.out
  exact ⟨⟨bm, vw, vf, vh, wv, xv, E, q.ext hm, r⟩, fun i hi => Nat.lt_of_lt_of_le (h.lt i hi) hm.size, h.ge⟩
/-- Another's step. -/
theorem Lr.keep {B g : Nat} {S S2 : Nat → Prop} {w w' : World} {p : Pk} {n : Nat} (h : Lr B g S w p n) (hm : Mod S2 w w') (hd : ∀ i, S i → ¬ S2 i) : Lr B g S w' p n := by
  obtain ⟨bm, vw, vf, vh, wv, xv, E, q, h1, h2, h3, h4, h5, h6, h7, h8, h9, h10, h11⟩ := h.out
  refine ⟨⟨bm, vw, vf, vh, wv, xv, E, ⟨⟨q.s.q.mod hm (hd _ h4), ownsP_mod q.s.rp hm (fun k hk => hd k (h6 k hk)), ownsP_mod q.s.rf hm (fun k hk => hd k (h7 k hk)), Nat.le_trans q.s.hB hm.size⟩, q.mp.mod hm (hd _ h5), q.row.mod hm (fun k hk => hd k (h8 k hk)), q.nil_, fun x hx => ⟨(q.pw x hx).1.mod hm (fun h0 => hd _ (h9 x hx h0)), (q.pw x hx).2⟩, fun x hx => ⟨(q.pf x hx).1.mod hm (fun h0 => hd _ (h10 x hx h0)), (q.pf x hx).2⟩, fun t x hx => ⟨(q.pe t x hx).1.mod hm (fun h0 => hd _ (h11 t x hx h0)), (q.pe t x hx).2⟩⟩, h1, h2, h3, h4, h5, h6, h7, h8, h9, h10, h11⟩, fun i hi => Nat.lt_of_lt_of_le (h.lt i hi) hm.size, h.ge⟩
theorem LrNew_calls (ep : Nat) (I : Int) (hI : I = (ep : Int)) (w : World) :
    Calls Tryd.prog 13 #[.int .u16 I] w fun e w' => ∃ g, e = .returned (.pointer (some ⟨g, 0, none⟩)) ∧ Lr w.heap.size g (fun i => w.heap.size ≤ i ∧ i < w'.heap.size) w' (newP ep) 0 ∧ Below w.heap.size w w' := by
  subst hI
  refine (LNew_calls ep w).mono ?_
  rintro e w' ⟨g, bm, rfl, q, hmap, h1, h2, hb⟩
  have hml : bm < w'.heap.size := (Array.getElem?_eq_some_iff.1 hmap).1
  have hN : ∀ i, (Value.slice none 0 0).ownBlock = some i → w.heap.size ≤ i ∧ i < w'.heap.size := fun i hi => by cases hi
  have hL : LS w' w.heap.size g bm ⟨ep, 0, 0, 0, false, false⟩ (.slice none 0 0) (.slice none 0 0) (.slice none 0 0) [] [] := ⟨q, World.ownsRow_nil _ _ _ _, World.ownsRow_nil _ _ _ _, hb.size⟩
  have hM : LM w' w.heap.size g bm (newP ep).L (.slice none 0 0) (.slice none 0 0) (.slice none 0 0) [] [] (fun _ => none) (newP ep).hd 0 := ⟨hL, Mp.empty hmap, Row.nil_ _ _, fun _ => rfl, fun x hx => (by cases hx), fun x hx => (by cases hx), fun t x hx => (by cases hx)⟩
  exact ⟨g, rfl, ⟨⟨bm, _, _, _, [], [], fun _ => none, hM, rfl, rfl, rfl, ⟨h1, q.lt⟩, ⟨h2, hml⟩, hN, hN, hN, fun x hx => (by cases hx), fun x hx => (by cases hx), fun t x hx => (by cases hx)⟩, fun i hi => hi.2, fun i hi => hi.1⟩, hb⟩
/-- What a step of a link leaves. -/
structure LrO (B g : Nat) (S : Nat → Prop) (w w' : World) (p : Pk) (n : Nat) : Prop where
  lr : Lr B g (grow S w w') w' p n
  mod : Mod S w w'
theorem grow_lt {S : Nat → Prop} {w w' : World} (h : ∀ i, S i → i < w.heap.size) (hs : w.heap.size ≤ w'.heap.size) : ∀ i, grow S w w' i → i < w'.heap.size := fun i hi => by
  rcases hi with hi | hi
  · exact Nat.lt_of_lt_of_le (h i hi) hs
  · exact hi.2
theorem grow_ge {B : Nat} {S : Nat → Prop} {w w' : World} (h : ∀ i, S i → B ≤ i) (hs : B ≤ w.heap.size) : ∀ i, grow S w w' i → B ≤ i := fun i hi => by
  rcases hi with hi | hi
  · exact h i hi
  · omega
theorem LrSend_calls (B g : Nat) (S : Nat → Prop) (p : Pk) (n : Nat) (A : Option Addr) (l : List UInt8) (N c b : Nat) (w : World) (h : Lr B g S w p n) (hs : Bs w b A l) (hn : l.length = N) (h1024 : N ≤ 1024) (hc : N ≤ c) (hcm : c ≤ maxLen) (hroom : p.ws.length + cnt N ≤ 128) :
    Calls Tryd.prog 15 #[.pointer (some ⟨g, 0, none⟩), .slice A N c] w fun e w' => e = .returned (.int .i64 0) ∧ LrO B g S w w' (sendP p l) n ∧ TMods LTs B w w' := by
  have hgB := h.hg
  obtain ⟨bm, vw, vf, vh, wv, xv, E, q, h1, h2, h3, h4, h5, h6, h7, h8, h9, h10, h11⟩ := h.out
  obtain ⟨A1, k1, b1, rfl, -⟩ := ownsP_sl q.s.rp
  have hwl : wv.length = p.ws.length := by rw [← h1, List.length_map]
  have hmap := q.mp.isMap
  refine (LSend_calls B g bm p.L A1 wv.length k1 wv vf vh A l N c b w q.s.q q.s.rp rfl hs hn h1024 hc hcm (by omega) q.s.hB).mono ?_
  rintro e w' ⟨A2, c2, ys, rfl, q', rp', hys, hin, hat, hm⟩
  have hT := TMods.of_mod q.s (hm.mono (fun i _ hh => by
    rcases hh with h | h
    · exact .inl h
    · exact .inr (.inl h))) hgB
  have hM : Mod S w w' := hm.mono (fun i _ hh => by
    rcases hh with rfl | hh
    · exact h4
    · exact h6 i hh)
  have hrf := ownsP_mod q.s.rf hm (fun i hi hh => by
    rcases hh with rfl | hh
    · exact row_apart q.s.rf q.s.q (by decide) hi
    · exact rows_apartT q.s.rp q.s.rf (by decide) i hh hi)
  have hvh : ∀ i, vh.ownBlock = some i → i < w.heap.size := fun i hi => (World.ownsRow.lt q.row i hi).2
  have hLM : LM w' B g bm p.L (.slice A2 (wv.length + ys.length) c2) vf vh (wv ++ ys) xv E p.hd n := by
    refine ⟨⟨q', rp', hrf, Nat.le_trans q.s.hB hM.size⟩, q.mp.mod hm ?_, q.row.mod hm (fun k hk hh => ?_), q.nil_, fun x hx => ?_, fun x hx => ⟨hT.inT (q.pf x hx).1 (by decide), (q.pf x hx).2⟩, fun t x hx => ⟨(q.pe t x hx).1.mod hm (fun h0 hh => ?_), fun h0 => ?_⟩⟩
    · rintro (hh | hh)
      · exact q.gm hh.symm
      · exact row_notmap q.s.rp hmap hh
    · rcases hh with hh | hh
      · exact row_apart q.row q.s.q (by decide) (by rw [← show k = g from hh]; exact hk)
      · exact rows_apartT q.row q.s.rp (by decide) k hk hh
    · rcases List.mem_append.1 hx with hx | hx
      · exact ⟨hT.inT (q.pw x hx).1 (by decide), (q.pw x hx).2⟩
      · exact ⟨(hin x hx).1, fun _ hh => by have := hvh _ hh; have := (hin x hx).2; omega⟩
    · have h9 := (q.pe t x hx).2 h0
      rcases hh with hh | hh
      · exact h9.1.1 hh
      · exact h9.2.1 hh
    · have h9 := (q.pe t x hx).2 h0
      refine ⟨h9.1, fun hh => ?_, h9.2.2⟩
      rcases hat _ hh with h8 | h8
      · exact h9.2.1 h8
      · have := Bs.lt (q.pe t x hx).1.1 h0; omega
  refine ⟨rfl, ⟨⟨⟨bm, _, vf, vh, wv ++ ys, xv, E, hLM, by rw [List.map_append, h1, hys]; rfl, h2, h3, .inl h4, .inl h5, fun i hi => ?_, fun i hi => .inl (h7 i hi), fun i hi => .inl (h8 i hi), fun x hx h0 => ?_, fun x hx h0 => .inl (h10 x hx h0), fun t x hx h0 => .inl (h11 t x hx h0)⟩, grow_lt h.lt hM.size, grow_ge h.ge q.s.hB⟩, hM⟩, hT⟩
  · rcases hat i hi with h8 | h8
    · exact .inl (h6 i h8)
    · exact .inr ⟨h8, (World.ownsRow.lt rp' i hi).2⟩
  · rcases List.mem_append.1 hx with hx | hx
    · exact .inl (h9 x hx h0)
    · exact .inr ⟨(hin x hx).2, Bs.lt (hin x hx).1.in_.1 h0⟩
/-- What a Tick leaves of all that a link holds. -/
theorem LM.ticked {w w' : World} {B g bm : Nat} {L L' : Lk} {vw vf vh vw' vf' : Value} {wv wv' : List PV} {xv xv' : List Fl} {E : EP} {hd : List UInt8} {n : Nat} (q : LM w B g bm L vw vf vh wv xv E hd n) (hg : B ≤ g) (hs : LS w' B g bm L' vw' vf' vh wv' xv') (hm : Mod (fun i => i = g ∨ vw.ownBlock = some i ∨ vf.ownBlock = some i) w w') (hw : ∀ i, vw'.ownBlock = some i → vw.ownBlock = some i ∨ w.heap.size ≤ i) (hf : ∀ i, vf'.ownBlock = some i → vf.ownBlock = some i ∨ w.heap.size ≤ i)
    (hpw : ∀ x ∈ wv', PV.InT w x ∧ (x.p.data ≠ [] → vh.ownBlock ≠ some x.b)) (hpf : ∀ x ∈ xv', PV.InT w x.p ∧ (x.p.p.data ≠ [] → vh.ownBlock ≠ some x.p.b)) : LM w' B g bm L' vw' vf' vh wv' xv' E hd n := by
  have hmap := q.mp.isMap
  have hT := TMods.of_mod q.s hm hg
  refine ⟨hs, q.mp.mod hm ?_, q.row.mod hm (fun k hk hh => ?_), q.nil_, fun x hx => ⟨hT.inT (hpw x hx).1 (by decide), (hpw x hx).2⟩, fun x hx => ⟨hT.inT (hpf x hx).1 (by decide), (hpf x hx).2⟩, fun t x hx => ⟨(q.pe t x hx).1.mod hm (fun h0 hh => ?_), fun h0 => ?_⟩⟩
  · rintro (hh | hh | hh)
    · exact q.gm hh.symm
    · exact row_notmap q.s.rp hmap hh
    · exact row_notmap q.s.rf hmap hh
  · rcases hh with hh | hh | hh
    · exact row_apart q.row q.s.q (by decide) (by rw [← show k = g from hh]; exact hk)
    · exact rows_apartT q.row q.s.rp (by decide) k hk hh
    · exact rows_apartT q.row q.s.rf (by decide) k hk hh
  · have h9 := (q.pe t x hx).2 h0
    rcases hh with hh | hh | hh
    · exact h9.1.1 hh
    · exact h9.2.1 hh
    · exact h9.2.2 hh
  · have h9 := (q.pe t x hx).2 h0
    have hl := Bs.lt (q.pe t x hx).1.1 h0
    refine ⟨h9.1, fun hh => ?_, fun hh => ?_⟩
    · rcases hw _ hh with h8 | h8
      · exact h9.2.1 h8
      · omega
    · rcases hf _ hh with h8 | h8
      · exact h9.2.2 h8
      · omega
/-- What a Tick leaves, and tells. -/
structure LrT (B g : Nat) (S : Nat → Prop) (w w' : World) (p : Pk) (n : Nat) (now : Int) (vo : Value) : Prop where
  o : LrO B g S w w' (tickP now p) n
  t : ∃ us, RowS w' w.heap.size vo us ∧ RowsIn w' w.heap.size us ((toldP now p).map fun f => sealedL f.raw)
  typ : TMods LTs B w w'
theorem LrTick_calls (B g : Nat) (S : Nat → Prop) (p : Pk) (n m : Nat) (now : Int) (w : World) (h : Lr B g S w p n) (hok : p.Ok m) (hm : m ≤ 100000) (hnow : 0 ≤ now ∧ now ≤ 1000000) :
    Calls Tryd.prog 17 #[.pointer (some ⟨g, 0, none⟩), .int .i64 now] w fun e w' => ∃ vo, e = .returned vo ∧ LrT B g S w w' p n now vo := by
  have hgB := h.hg
  obtain ⟨bm, vw, vf, vh, wv, xv, E, q, h1, h2, h3, h4, h5, h6, h7, h8, h9, h10, h11⟩ := h.out
  have hk := start_key wv p.L.nx xv
  rw [h1, h2] at hk
  obtain ⟨i1, i2⟩ := start_all (Q := fun x => (PV.InT w x ∧ (x.p.data ≠ [] → vh.ownBlock ≠ some x.b)) ∧ (x.p.data ≠ [] → S x.b)) wv p.L.nx xv (fun x hx => ⟨q.pw x hx, h9 x hx⟩) (fun x hx => ⟨q.pf x hx, h10 x hx⟩)
  obtain ⟨s1, s2, s3, s4⟩ := startK_ok p.ws p.L.nx p.xs hok.nx hok.ws hok.xs
  have hsk : sendsTo now (startL p.L wv xv) (startN wv p.L.nx xv).2.2 = (dueP now p).map fun f => sealedL f.raw := by
    rw [sends_key]
    unfold dueP
    rw [hk]
    rfl
  have hwl : wv.length = p.ws.length := by rw [← h1, List.length_map]
  have hxl : xv.length = p.xs.length := by rw [← h2, List.length_map]
  have hsl2 : (startN wv p.L.nx xv).2.2.length = (startK p.ws p.L.nx p.xs).2.2.length := by rw [hk]; simp
  have hlen := hok.len
  have hxs : ∀ x ∈ (startN wv p.L.nx xv).2.2, x.seq < 65536 ∧ x.p.p.data.length ≤ 64 ∧ 0 ≤ x.at_ ∧ x.at_ ≤ 1000000 ∧ PV.InT w x.p := fun x hx => by
    have h5 := s3 x.n (by rw [hk]; exact List.mem_map_of_mem hx)
    exact ⟨h5.1, h5.2.1, h5.2.2.1, h5.2.2.2, (i2 x hx).1.1⟩
  have hsx : ∀ x ∈ xv, x.seq < 65536 := fun x hx => (hok.xs x.n (by rw [← h2]; exact List.mem_map_of_mem hx)).1
  have fin : ∀ (w' : World) (vw' vf' : Value) (us : List Value) (vo : Value) (fs : List Fr), LS w' B g bm { startL p.L wv xv with ow := false } vw' vf' vh (startN wv p.L.nx xv).2.1 ((startN wv p.L.nx xv).2.2.map (tickX now)) → RowS w' w.heap.size vo us → RowsIn w' w.heap.size us (fs.map fun f => sealedL f.raw) → TMods LTs B w w' → Mod (fun i => i = g ∨ vw.ownBlock = some i ∨ vf.ownBlock = some i) w w' → (∀ i, vw'.ownBlock = some i → vw.ownBlock = some i ∨ w.heap.size ≤ i) → (∀ i, vf'.ownBlock = some i → vf.ownBlock = some i ∨ w.heap.size ≤ i) → fs = toldP now p → LrT B g S w w' p n now vo := by
    intro w' vw' vf' us vo fs q' hvo hI hT hmd ho1 ho2 hfs
    have hM : Mod S w w' := hmd.mono (fun i _ hh => by
      rcases hh with rfl | hh | hh
      · exact h4
      · exact h6 i hh
      · exact h7 i hh)
    have e : ({ startL p.L wv xv with ow := false } : Lk) = (tickP now p).L := by unfold tickP; rw [hk]; rfl
    rw [e] at q'
    have hLM := q.ticked hgB q' hmd ho1 ho2 (fun x hx => (i1 x hx).1) (fun x hx => by
      obtain ⟨y, hy, rfl⟩ := List.mem_map.1 hx
      have h5 := (i2 y hy).1
      unfold tickX
      split
      · exact h5
      · exact h5)
    refine ⟨⟨⟨⟨bm, vw', vf', vh, _, _, E, hLM, ?_, ?_, h3, .inl h4, .inl h5, fun i hi => ?_, fun i hi => ?_, fun i hi => .inl (h8 i hi), fun x hx h0 => .inl ((i1 x hx).2 h0), fun x hx h0 => ?_, fun t x hx h0 => .inl (h11 t x hx h0)⟩, grow_lt h.lt hM.size, grow_ge h.ge q.s.hB⟩, hM⟩, ⟨us, hvo, by rw [← hfs]; exact hI⟩, hT⟩
    · unfold tickP; rw [hk]
    · unfold tickP
      rw [hk, List.map_map, List.map_map]
      exact List.map_congr_left fun x _ => tick_key now x
    · rcases ho1 i hi with h8 | h8
      · exact .inl (h6 i h8)
      · exact .inr ⟨h8, (World.ownsRow.lt q'.rp i hi).2⟩
    · rcases ho2 i hi with h8 | h8
      · exact .inl (h7 i h8)
      · exact .inr ⟨h8, (World.ownsRow.lt q'.rf i hi).2⟩
    · obtain ⟨y, hy, rfl⟩ := List.mem_map.1 hx
      have h5 := (i2 y hy).2
      unfold tickX at h0 ⊢
      split
      · rename_i hd; rw [if_pos hd] at h0; exact .inl (h5 h0)
      · rename_i hd; rw [if_neg hd] at h0; exact .inl (h5 h0)
  by_cases hal : dueP now p = [] ∧ p.L.ow = true
  · have hto : [aloneF p.L] = toldP now p := by unfold toldP; rw [if_pos hal]
    refine (TickA_calls B g bm p.L vw vf vh wv xv now w q.s hgB hok.ep hok.nx hok.cn hok.cb hxs hsx (by omega) (by omega) hnow (by rw [hsk, hal.1]; rfl) hal.2).mono ?_
    rintro e w' ⟨vo, rfl, ⟨vw', vf', us, q', hvo, hI, hT, hmd, ho1, ho2⟩⟩
    exact ⟨vo, rfl, fin w' vw' vf' us vo [aloneF p.L] q' hvo hI hT hmd ho1 ho2 hto⟩
  · have hto : dueP now p = toldP now p := by unfold toldP; rw [if_neg hal]
    refine (Tick_calls B g bm p.L vw vf vh wv xv now w q.s hgB hok.ep hok.nx hok.cn hok.cb hxs hsx (by omega) (by omega) hnow (fun h0 => ?_)).mono ?_
    · rw [hsk] at h0
      have h5 := List.map_eq_nil_iff.1 h0
      cases ho : p.L.ow with
      | false => rfl
      | true => exact absurd ⟨h5, ho⟩ hal
    · rintro e w' ⟨vo, rfl, ⟨vw', vf', us, q', hvo, hI, hT, hmd, ho1, ho2⟩⟩
      rw [hsk] at hI
      exact ⟨vo, rfl, fin w' vw' vf' us vo (dueP now p) q' hvo hI hT hmd ho1 ho2 hto⟩
/-- What Take leaves, and tells. -/
structure LrK (B g : Nat) (S : Nat → Prop) (w w' : World) (p : Pk) (n : Nat) (f : Fr) (vo : Value) : Prop where
  o : LrO B g S w w' (takeP p f).1 (n + 1)
  t : ∃ us, RowS w' w.heap.size vo us ∧ RowsIn w' B us (takeP p f).2.1 ∧ ∀ u ∈ us, ∀ i, u.ownBlock = some i → grow S w w' i
  typ : f.alone = true → TMods LTs B w w'
theorem tab_mod {S : Nat → Prop} {w w' : World} {B : Nat} (h : Tab w) (hm : Mod S w w') (hs : ∀ i, S i → B ≤ i) (hB : 0 < B) : Tab w' := fun j hj => by
  have h1 := h j hj
  have h2 := World.block_lt_of_cell? w _ h1
  rw [← h1]
  exact World.cell?_of_block (hm.block _ h2 (fun hh => by have h3 : B ≤ 0 := hs _ hh; omega))
theorem kept_key (f : Fr) (xs : List Fl) : (keptF f xs).map Fl.n = keepX f (xs.map Fl.n) := by
  unfold keptF keepX
  rw [List.filter_map]
  rfl
theorem LrTake_calls (B g : Nat) (S : Nat → Prop) (p : Pk) (n m : Nat) (f : Fr) (A : Option Addr) (N c : Nat) (w : World) (h : Lr B g S w p n) (hok : p.Ok m) (hm : m ≤ 100000) (hn : n ≤ 1000000) (hP : Parsed A N c w f) (ho : f.Ok) (hdl : f.data.length ≤ maxLen) (hep : f.epoch = p.L.ep) (hT : Tab w) (hTB : 0 < B) :
    Calls Tryd.prog 18 #[.pointer (some ⟨g, 0, none⟩), .slice A N c] w fun e w' => ∃ vo, e = .returned (.tuple #[vo, .int .i64 ((takeP p f).2.2 : Int)]) ∧ LrK B g S w w' p n f vo := by
  have hgB := h.hg
  obtain ⟨bm, vw, vf, vh, wv, xv, E, q, h1, h2, h3, h4, h5, h6, h7, h8, h9, h10, h11⟩ := h.out
  have hxl : xv.length = p.xs.length := by rw [← h2, List.length_map]
  have hlen := hok.len
  have hsx : ∀ x ∈ xv, x.seq < 65536 := fun x hx => (hok.xs x.n (by rw [← h2]; exact List.mem_map_of_mem hx)).1
  have hset : ∀ i, (i = g ∨ i = bm ∨ vh.ownBlock = some i ∨ vf.ownBlock = some i) → S i := fun i hh => by
    rcases hh with rfl | rfl | hh | hh
    · exact h4
    · exact h5
    · exact h8 i hh
    · exact h7 i hh
  have htab : ∀ W, Mod (fun i => i = g ∨ i = bm ∨ vh.ownBlock = some i ∨ vf.ownBlock = some i) w W → Tab W := fun W hW => tab_mod hT hW (fun i hi => h.ge i (hset i hi)) hTB
  have hc0 : ∀ t x, E t = some x → (fun y : PV => y.p.data ≠ [] → S y.b ∨ w.heap.size ≤ y.b) x := fun t x hx h0 => .inl (h11 t x hx h0)
  have hc1 : ∀ y : PV, w.heap.size ≤ y.b → (fun y : PV => y.p.data ≠ [] → S y.b ∨ w.heap.size ≤ y.b) y := fun y hy h0 => .inr hy
  have fin : ∀ (w' : World) (p' : Pk) (n' : Nat) (outs : List (List UInt8)) (vo : Value), n' ≤ n + 1 → p'.ws = p.ws → p'.xs = keepX f p.xs → TkO (fun y : PV => y.p.data ≠ [] → S y.b ∨ w.heap.size ≤ y.b) w w' B g bm p'.L vw vf vh wv (keptF f xv) p'.E p'.hd n' outs vo → LrO B g S w w' p' (n + 1) ∧ ∃ us, RowS w' w.heap.size vo us ∧ RowsIn w' B us outs ∧ ∀ u ∈ us, ∀ i, u.ownBlock = some i → grow S w w' i := by
    rintro w' p' n' outs vo hn' hpw hpx ⟨vf', vh', E', us, q', hE, hC, hob, hvh, hvo, hI, hib, hmd⟩
    have hM : Mod S w w' := hmd.mono (fun i _ hh => hset i hh)
    have hq : LM w' B g bm p'.L vw vf' vh' wv (keptF f xv) E' p'.hd (n + 1) := ⟨q'.s, q'.mp.mono hn', q'.row, q'.nil_, q'.pw, q'.pf, q'.pe⟩
    refine ⟨⟨⟨⟨bm, vw, vf', vh', wv, keptF f xv, E', hq, by rw [hpw]; exact h1, by rw [kept_key, h2, hpx], hE, .inl h4, .inl h5, fun i hi => .inl (h6 i hi), fun i hi => .inl (h7 i (hob ▸ hi)), fun i hi => ?_, fun x hx h0 => .inl (h9 x hx h0), fun x hx h0 => .inl (h10 x (List.mem_filter.1 hx).1 h0), fun t x hx h0 => ?_⟩, grow_lt h.lt hM.size, grow_ge h.ge q.s.hB⟩, hM⟩, us, hvo, hI, fun u hu i hi => ?_⟩
    · rcases hvh i hi with h0 | h0
      · exact .inl (h8 i h0)
      · exact .inr ⟨h0, (World.ownsRow.lt q'.row i hi).2⟩
    · rcases hC t x hx h0 with h9 | h9
      · exact .inl h9
      · exact .inr ⟨h9, Bs.lt (q'.pe t x hx).1.1 h0⟩
    · rcases hib u hu i hi with h9 | h9
      · exact .inl (h8 i h9)
      · refine .inr ⟨h9, ?_⟩
        obtain ⟨j, hj, hju⟩ := List.getElem_of_mem hu
        have hjl : j < outs.length := by rw [← hI.1]; exact hj
        obtain ⟨u', k1, k2⟩ := hI.2 j _ (List.getElem?_eq_getElem hjl)
        rw [List.getElem?_eq_getElem hj] at k1
        injection k1 with k1
        rw [hju] at k1
        subst k1
        exact (World.ownsRow.lt k2 i hi).2
  cases hal : f.alone with
  | true =>
    refine (Take_alone _ B g bm p.L vw vf vh wv xv E p.hd n f A N c w q hP ho hdl hep hsx (by omega) hc0 hc1 hal).mono ?_
    rintro e w' ⟨vo, rfl, htk, hma⟩
    have e1 : takeP p f = ({ p with xs := keepX f p.xs }, [], 0) := by unfold takeP; rw [if_pos hal]
    rw [e1]
    obtain ⟨r1, r2⟩ := fin w' { p with xs := keepX f p.xs } n [] vo (by omega) rfl rfl (by rw [← h3]; exact htk)
    exact ⟨vo, rfl, ⟨by rw [e1]; exact r1, by rw [e1]; exact r2, fun _ => TMods.of_mod q.s (hma.mono (fun i _ hh => by rcases hh with hh | hh; exact .inl hh; exact .inr (.inr hh))) hgB⟩⟩
  | false =>
    cases hnote : noteN p.L.cn p.L.cb f.seq with
    | none =>
      refine (Take_had _ B g bm p.L vw vf vh wv xv E p.hd n f A N c w q hP ho hdl hep hsx (by omega) hc0 hc1 htab hal hok.hd hn hok.cn hok.cb hnote).mono ?_
      rintro e w' ⟨vo, rfl, htk⟩
      have e1 : takeP p f = ({ p with xs := keepX f p.xs, L := { p.L with ow := true } }, [], 0) := by
        unfold takeP
        rw [if_neg (by rw [hal]; decide)]
        simp only [hnote]
      rw [e1]
      obtain ⟨r1, r2⟩ := fin w' { p with xs := keepX f p.xs, L := { p.L with ow := true } } n [] vo (by omega) rfl rfl (by rw [← h3]; exact htk)
      exact ⟨vo, rfl, ⟨by rw [e1]; exact r1, by rw [e1]; exact r2, fun h => by rw [hal] at h; cases h⟩⟩
    | some xy =>
      obtain ⟨x, y⟩ := xy
      refine (Take_new _ B g bm p.L vw vf vh wv xv E p.hd n f A N c x y _ w q hP ho hdl hep hsx (by omega) hc0 hc1 htab hal hok.hd hn hok.cn hok.cb hnote rfl).mono ?_
      rintro e w' ⟨vo, rfl, htk⟩
      have e1 : takeP p f = ({ p with xs := keepX f p.xs, L := { p.L with cn := x, cb := y, lv := (drainK (firstK p f) p.L.cn (aheadN p.L.cn x)).k.leaving, ow := true }, E := (drainK (firstK p f) p.L.cn (aheadN p.L.cn x)).E, hd := (drainK (firstK p f) p.L.cn (aheadN p.L.cn x)).k.held }, (drainK (firstK p f) p.L.cn (aheadN p.L.cn x)).out, (drainK (firstK p f) p.L.cn (aheadN p.L.cn x)).err) := by
        unfold takeP
        rw [if_neg (by rw [hal]; decide)]
        simp only [hnote]
      have e2 : (⟨fun u => if u = f.seq then some ⟨f.first, f.last, f.data⟩ else plE E u, ⟨p.hd, p.L.lv⟩, [], 0⟩ : Kp) = firstK p f := by unfold firstK; rw [h3]
      rw [e2] at htk ⊢
      obtain ⟨r1, r2⟩ := fin w' { p with xs := keepX f p.xs, L := { p.L with cn := x, cb := y, lv := (drainK (firstK p f) p.L.cn (aheadN p.L.cn x)).k.leaving, ow := true }, E := (drainK (firstK p f) p.L.cn (aheadN p.L.cn x)).E, hd := (drainK (firstK p f) p.L.cn (aheadN p.L.cn x)).k.held } (n + 1) _ vo (Nat.le_refl _) rfl rfl htk
      exact ⟨vo, by rw [e1], ⟨by rw [e1]; exact r1, by rw [e1]; exact r2, fun h => by rw [hal] at h; cases h⟩⟩
end Go.Proofs.YtcgbamkfflcdfaaDoor
/- Two links apart, with all that they hold; the frames told. Conditions: those said. -/
namespace Go.Proofs.YtcgbamkfflcdfaaDoor
open Go.RowKit
set_option linter.unusedVariables false

theorem tab_lt {w : World} (h : Tab w) : 0 < w.heap.size := World.block_lt_of_cell? w _ (h 0 (by decide))
/-- Two links apart; what Za says is none of the one's, what Zb says none of the other one's. -/
structure L2 (w : World) (Ba ga : Nat) (pa : Pk) (na : Nat) (Bb gb : Nat) (pb : Pk) (nb : Nat) (Za Zb : Nat → Prop) : Prop where
  out : ∃ Sa Sb : Nat → Prop, Lr Ba ga Sa w pa na ∧ Lr Bb gb Sb w pb nb ∧ (∀ i, Sa i → ¬ Sb i) ∧ (∀ i, Sa i → ¬ Za i) ∧ (∀ i, Sb i → ¬ Zb i)
  tab : Tab w
  ta : 0 < Ba
  tb : 0 < Bb
  za : ∀ i, Za i → i < w.heap.size
  zb : ∀ i, Zb i → i < w.heap.size
abbrev noZ : Nat → Prop := fun _ => False
namespace L2
variable {w w' : World} {Ba ga na Bb gb nb : Nat} {pa pb : Pk} {Za Zb : Nat → Prop}
theorem symm (h : L2 w Ba ga pa na Bb gb pb nb Za Zb) : L2 w Bb gb pb nb Ba ga pa na Zb Za := by
  obtain ⟨Sa, Sb, ha, hb, d, za, zb⟩ := h.out
  exact ⟨⟨Sb, Sa, hb, ha, fun i h1 h2 => d i h2 h1, zb, za⟩, h.tab, h.tb, h.ta, h.zb, h.za⟩
theorem ext (h : L2 w Ba ga pa na Bb gb pb nb Za Zb) (hm : Below w.heap.size w w') : L2 w' Ba ga pa na Bb gb pb nb Za Zb := by
  obtain ⟨Sa, Sb, ha, hb, r⟩ := h.out
  exact ⟨⟨Sa, Sb, ha.ext hm, hb.ext hm, r⟩, Tab.ext h.tab hm, h.ta, h.tb, fun i hi => Nat.lt_of_lt_of_le (h.za i hi) hm.size, fun i hi => Nat.lt_of_lt_of_le (h.zb i hi) hm.size⟩
theorem free (h : L2 w Ba ga pa na Bb gb pb nb Za Zb) : L2 w Ba ga pa na Bb gb pb nb noZ noZ := by
  obtain ⟨Sa, Sb, ha, hb, d, za, zb⟩ := h.out
  exact ⟨⟨Sa, Sb, ha, hb, d, fun i _ h => h, fun i _ h => h⟩, h.tab, h.ta, h.tb, fun i h => h.elim, fun i h => h.elim⟩
theorem new {Sa : Nat → Prop} (ht : Tab w) (hBa : 0 < Ba) (ha : Lr Ba ga Sa w pa na) (hm : Below w.heap.size w w') (hb : Lr w.heap.size gb (fun i => w.heap.size ≤ i ∧ i < w'.heap.size) w' pb nb) : L2 w' Ba ga pa na w.heap.size gb pb nb noZ noZ :=
  ⟨⟨Sa, _, ha.ext hm, hb, fun i h1 h2 => by have := ha.lt i h1; omega, fun i _ h => h, fun i _ h => h⟩, Tab.ext ht hm, hBa, tab_lt ht, fun i h => h.elim, fun i h => h.elim⟩
/-- A step of the one. -/
theorem step {Sa Sb : Nat → Prop} {pa' : Pk} {na' : Nat} (h : L2 w Ba ga pa na Bb gb pb nb Za Zb) (hb : Lr Bb gb Sb w pb nb) (hA : ∀ i, Sa i → Ba ≤ i) (d : ∀ i, Sa i → ¬ Sb i) (za : ∀ i, Sa i → ¬ Za i) (zb : ∀ i, Sb i → ¬ Zb i) (ho : LrO Ba ga Sa w w' pa' na') : L2 w' Ba ga pa' na' Bb gb pb nb Za (fun i => Zb i ∨ (w.heap.size ≤ i ∧ i < w'.heap.size)) := by
  refine ⟨⟨grow Sa w w', Sb, ho.lr, hb.keep ho.mod (fun i hi hh => d i hh hi), fun i hi hh => ?_, fun i hi hh => ?_, fun i hi hh => ?_⟩, tab_mod h.tab ho.mod hA h.ta, h.ta, h.tb, fun i hi => Nat.lt_of_lt_of_le (h.za i hi) ho.mod.size, fun i hi => ?_⟩
  · rcases hi with hi | hi
    · exact d i hi hh
    · have := hb.lt i hh; omega
  · rcases hi with hi | hi
    · exact za i hi hh
    · have := h.za i hh; omega
  · rcases hh with hh | hh
    · exact zb i hi hh
    · have := hb.lt i hi; omega
  · rcases hi with hi | hi
    · exact Nat.lt_of_lt_of_le (h.zb i hi) ho.mod.size
    · exact hi.2
theorem mono (h : L2 w Ba ga pa na Bb gb pb nb Za Zb) {Za' Zb' : Nat → Prop} (h1 : ∀ i, Za' i → Za i) (h2 : ∀ i, Zb' i → Zb i) : L2 w Ba ga pa na Bb gb pb nb Za' Zb' := by
  obtain ⟨Sa, Sb, ha, hb, d, za, zb⟩ := h.out
  exact ⟨⟨Sa, Sb, ha, hb, d, fun i hi hh => za i hi (h1 i hh), fun i hi hh => zb i hi (h2 i hh)⟩, h.tab, h.ta, h.tb, fun i hi => h.za i (h1 i hi), fun i hi => h.zb i (h2 i hi)⟩
end L2
/-- What a step leaves alone. -/
structure Kept (B : Nat) (Z : Nat → Prop) (w w' : World) : Prop where
  out : ∃ S : Nat → Prop, Mod S w w' ∧ (∀ i, S i → ¬ Z i) ∧ (∀ i, S i → B ≤ i)
theorem Kept.below {B : Nat} {Z : Nat → Prop} {w w' : World} (h : Kept B Z w w') (hB : B ≤ w.heap.size) : Below B w w' := by
  obtain ⟨S, hm, -, hb⟩ := h.out
  exact hm.below hB (fun i hi hh => by have := hb i hh; omega)
theorem Kept.mono {B : Nat} {Z Z' : Nat → Prop} {w w' : World} (h : Kept B Z w w') (hz : ∀ i, Z' i → Z i) : Kept B Z' w w' := by
  obtain ⟨S, hm, h1, hb⟩ := h.out
  exact ⟨S, hm, fun i hi hh => h1 i hi (hz i hh), hb⟩
/-- The frames told, as they lie: in blocks of Z. -/
structure ToldZ (w : World) (Z : Nat → Prop) (A : Option Addr) (n c : Nat) (us : List Value) (fs : List Fr) : Prop where
  t : ∃ C, Told w C A n c us fs
  row : ∀ k, (Value.slice A n c).ownBlock = some k → Z k
  ins : ∀ u ∈ us, ∀ k, u.ownBlock = some k → Z k
namespace ToldZ
variable {w w' : World} {Z : Nat → Prop} {A : Option Addr} {n c : Nat} {us : List Value} {fs : List Fr}
theorem ext (h : ToldZ w Z A n c us fs) (hm : Below w.heap.size w w') : ToldZ w' Z A n c us fs := by
  obtain ⟨C, t⟩ := h.t
  exact ⟨⟨C, t.ext hm⟩, h.row, h.ins⟩
theorem keepM {S : Nat → Prop} (h : ToldZ w Z A n c us fs) (hm : Mod S w w') (hs : ∀ i, S i → ¬ Z i) : ToldZ w' Z A n c us fs := by
  obtain ⟨C, t⟩ := h.t
  exact ⟨⟨C, t.row.mod hm (fun k hk hh => hs k hh (h.row k hk)), ⟨t.ins.1, fun i l hl => by
    obtain ⟨u, h1, h2⟩ := t.ins.2 i l hl
    exact ⟨u, h1, h2.mod hm (fun k hk hh => hs k hh (h.ins u (List.mem_of_getElem? h1) k hk))⟩⟩, t.len⟩, h.row, h.ins⟩
theorem kept {B : Nat} (h : ToldZ w Z A n c us fs) (hk : Kept B Z w w') : ToldZ w' Z A n c us fs := by
  obtain ⟨S, hm, h1, -⟩ := hk.out
  exact h.keepM hm h1
theorem keepT {B : Nat} (h : ToldZ w Z A n c us fs) (hm : TMods LTs B w w') : ToldZ w' Z A n c us fs := by
  obtain ⟨C, t⟩ := h.t
  exact ⟨⟨C, t.keep hm⟩, h.row, h.ins⟩
theorem at_ (h : ToldZ w Z A n c us fs) {k : Nat} (hk : k < n) (hkf : k < fs.length) :
    ∃ g oa A2 m c2 b2, A = some ⟨g, oa, none⟩ ∧ w.cell? ⟨g, oa + k, none⟩ = some (.slice A2 m c2) ∧ (sealedL (fs[k]).raw).length = m ∧ m ≤ c2 ∧ Bs w b2 A2 (sealedL (fs[k]).raw) := by
  obtain ⟨C, t⟩ := h.t
  obtain ⟨u, hu, hr⟩ := t.ins.2 k (sealedL (fs[k]).raw) (by rw [List.getElem?_map, List.getElem?_eq_getElem hkf]; rfl)
  obtain ⟨A2, c2, b2, rfl, hc, -, -, -, hs, -⟩ := hr.sl
  obtain ⟨A3, c3, b, hv, -, -, -, hsl, -⟩ := RowS.sl t.row
  injection hv with e1 e2 e3
  subst e1
  obtain ⟨oa, e4, hca⟩ := hsl (by rintro rfl; simp at hu)
  subst e4
  exact ⟨_, _, A2, _, c2, b2, rfl, hca k _ hu, rfl, hc, hs⟩
theorem len (h : ToldZ w Z A n c us fs) : fs.length = n := by
  obtain ⟨C, t⟩ := h.t
  exact t.len
theorem cap (h : ToldZ w Z A n c us fs) : n ≤ c := by
  obtain ⟨C, t⟩ := h.t
  obtain ⟨A3, c3, b, hv, h1, -⟩ := RowS.sl t.row
  injection hv with e1 e2 e3
  rw [e2, e3]
  exact h1
end ToldZ
variable {w : World} {Ba ga na Bb gb nb : Nat} {pa pb : Pk} {Za Zb : Nat → Prop}
theorem L2Send (h : L2 w Ba ga pa na Bb gb pb nb Za Zb) (A : Option Addr) (l : List UInt8) (n c b : Nat) (hs : Bs w b A l) (hn : l.length = n) (h1024 : n ≤ 1024) (hc : n ≤ c) (hcm : c ≤ maxLen) (hroom : pa.ws.length + cnt n ≤ 128) :
    Calls Tryd.prog 15 #[.pointer (some ⟨ga, 0, none⟩), .slice A n c] w fun e w' => e = .returned (.int .i64 0) ∧ L2 w' Ba ga (sendP pa l) na Bb gb pb nb Za Zb ∧ TMods LTs Ba w w' := by
  obtain ⟨Sa, Sb, ha, hb, d, za, zb⟩ := h.out
  exact (LrSend_calls Ba ga Sa pa na A l n c b w ha hs hn h1024 hc hcm hroom).mono fun e w' ⟨he, ho, hT⟩ => ⟨he, (h.step hb ha.ge d za zb ho).mono (fun i hi => hi) (fun i hi => .inl hi), hT⟩
theorem L2Tick (h : L2 w Ba ga pa na Bb gb pb nb Za Zb) (m : Nat) (now : Int) (hok : pa.Ok m) (hm : m ≤ 100000) (hnow : 0 ≤ now ∧ now ≤ 1000000) (n : Nat) (fs : List Fr) (hfs : toldP now pa = fs) (hn : fs.length = n) :
    Calls Tryd.prog 17 #[.pointer (some ⟨ga, 0, none⟩), .int .i64 now] w fun e w' => ∃ A c us, e = .returned (.slice A n c) ∧ L2 w' Ba ga (tickP now pa) na Bb gb pb nb Za (fun i => Zb i ∨ (w.heap.size ≤ i ∧ i < w'.heap.size)) ∧ ToldZ w' (fun i => w.heap.size ≤ i ∧ i < w'.heap.size) A n c us fs ∧ TMods LTs Ba w w' := by
  obtain ⟨Sa, Sb, ha, hb, d, za, zb⟩ := h.out
  refine (LrTick_calls Ba ga Sa pa na m now w ha hok hm hnow).mono ?_
  rintro e w' ⟨vo, rfl, ⟨ho, ⟨us, hvo, hI⟩, hT⟩⟩
  rw [hfs] at hI
  have hul : us.length = n := by rw [hI.1, List.length_map]; exact hn
  have hvo2 := hvo
  obtain ⟨A1, c1, b1, hv, -⟩ := RowS.sl hvo2
  rw [hul] at hv
  subst hv
  refine ⟨A1, c1, us, rfl, h.step hb ha.ge d za zb ho, ⟨⟨w.heap.size, hvo, hI, hn⟩, fun k hk => World.ownsRow.lt hvo k hk, fun u hu k hk => ?_⟩, hT⟩
  obtain ⟨j, hj, hju⟩ := List.getElem_of_mem hu
  have hjl : j < (fs.map fun f => sealedL f.raw).length := by rw [← hI.1]; exact hj
  obtain ⟨u', h1, h2⟩ := hI.2 j _ (List.getElem?_eq_getElem hjl)
  rw [List.getElem?_eq_getElem hj] at h1
  injection h1 with h1
  rw [hju] at h1
  subst h1
  exact World.ownsRow.lt h2 k hk
theorem L2Take (h : L2 w Ba ga pa na Bb gb pb nb Za Zb) (m : Nat) (f : Fr) (A : Option Addr) (n c b : Nat) (hok : pa.Ok m) (hm : m ≤ 100000) (hna : na ≤ 1000000) (ho : f.Ok) (hr : f.right = true) (hs : Bs w b A (sealedL f.raw)) (hn : (sealedL f.raw).length = n) (hc : n ≤ c) (hep : f.epoch = pa.L.ep) (r : Pk × List (List UInt8) × Nat) (hR : takeP pa f = r) :
    Calls Tryd.prog 18 #[.pointer (some ⟨ga, 0, none⟩), .slice A n c] w fun e w' => ∃ A' c' us, e = .returned (.tuple #[.slice A' r.2.1.length c', .int .i64 (r.2.2 : Int)]) ∧ L2 w' Ba ga r.1 (na + 1) Bb gb pb nb Za Zb ∧ RowS w' w.heap.size (.slice A' r.2.1.length c') us ∧ RowsIn w' Ba us r.2.1 ∧ Kept Ba Za w w' ∧ (f.alone = true → TMods LTs Ba w w') := by
  obtain ⟨Sa, Sb, ha, hb, d, za, zb⟩ := h.out
  have hl := Fr.right_len hr
  subst hR
  refine (LrTake_calls Ba ga Sa pa na m f A n c w ha hok hm hna (Parse_own f A n c b w ho hr hs hn hc) ho (by simp only [maxLen]; omega) hep h.tab h.ta).mono ?_
  rintro e w' ⟨vo, rfl, ⟨ho', ⟨us, hvo, hI, hib⟩, hT⟩⟩
  have hvo2 := hvo
  obtain ⟨A1, c1, b1, hv, -⟩ := RowS.sl hvo2
  rw [hI.1] at hv
  subst hv
  exact ⟨A1, c1, us, rfl, (h.step hb ha.ge d za zb ho').mono (fun i hi => hi) (fun i hi => .inl hi), hvo, hI, ⟨Sa, ho'.mod, za, ha.ge⟩, hT⟩
theorem L2Flying (h : L2 w Ba ga pa na Bb gb pb nb Za Zb) {n : Nat} (hn : pa.xs.length = n) :
    Calls Tryd.prog 25 #[.pointer (some ⟨ga, 0, none⟩)] w fun e w' => e = .returned (.int .i64 (n : Int)) ∧ w = w' := by
  obtain ⟨Sa, Sb, ha, hb, -⟩ := h.out
  obtain ⟨bm, vw, vf, vh, wv, xv, E, q, h1, h2, -⟩ := ha.out
  obtain ⟨A1, k1, b1, rfl, -⟩ := ownsP_sl q.s.rf
  rw [← hn, ← h2, List.length_map]
  exact LFlying_calls ga bm pa.L vw A1 xv.length k1 vh w q.s.q
theorem L2Waiting (h : L2 w Ba ga pa na Bb gb pb nb Za Zb) {n : Nat} (hn : pa.ws.length = n) :
    Calls Tryd.prog 24 #[.pointer (some ⟨ga, 0, none⟩)] w fun e w' => e = .returned (.int .i64 (n : Int)) ∧ w = w' := by
  obtain ⟨Sa, Sb, ha, hb, -⟩ := h.out
  obtain ⟨bm, vw, vf, vh, wv, xv, E, q, h1, h2, -⟩ := ha.out
  obtain ⟨A1, k1, b1, rfl, -⟩ := ownsP_sl q.s.rp
  rw [← hn, ← h1, List.length_map]
  exact LWaiting_calls ga bm pa.L A1 wv.length k1 vf vh w q.s.q
theorem L2Acks (h : L2 w Ba ga pa na Bb gb pb nb Za Zb) {x y : Nat} (hx : pa.L.cn = x) (hy : pa.L.cb = y) :
    Calls Tryd.prog 26 #[.pointer (some ⟨ga, 0, none⟩)] w fun e w' => e = .returned (.agg #[.int .u16 (x : Int), .int .u32 (y : Int)]) ∧ Below w.heap.size w w' := by
  obtain ⟨Sa, Sb, ha, hb, -⟩ := h.out
  obtain ⟨bm, vw, vf, vh, wv, xv, E, q, h1, h2, -⟩ := ha.out
  rw [← hx, ← hy]
  exact LAcks_calls ga bm pa.L vw vf vh w q.s.q
set_option maxHeartbeats 2000000 in
set_option maxRecDepth 20000 in
theorem L2Idle (h : L2 w Ba ga pa na Bb gb pb nb Za Zb) {d : Bool} (hd : (decide (pa.ws.length = 0) && decide (pa.xs.length = 0)) = d) :
    Calls Tryd.prog 20 #[.pointer (some ⟨ga, 0, none⟩)] w fun e w' => e = .returned (.bool d) ∧ Below w.heap.size w w' := by
  have hW := L2Waiting h rfl
  have hF := L2Flying h rfl
  have HH := Lib.hid h
  obtain ⟨n1, hn1⟩ : ∃ n1, n1 = pa.ws.length := ⟨_, rfl⟩
  obtain ⟨n2, hn2⟩ : ∃ n2, n2 = pa.xs.length := ⟨_, rfl⟩
  rw [← hn1] at hW hd
  rw [← hn2] at hF hd
  have HD := Lib.hid hd
  clear hn1 hn2 h hd
  go_enter Tryd.func20, Tryd.ntmps20
  by_cases h1 : n1 = 0
  · subst h1
    go_wp2_with fail
    refine hW.mono ?_
    rintro e w1 ⟨rfl, e7⟩
    subst e7
    clear hW
    by_cases h2 : n2 = 0
    · subst h2
      go_wp2_with fail
      refine hF.mono ?_
      rintro e w1 ⟨rfl, e7⟩
      subst e7
      go_wp2_with fail
      go_ret
      exact ⟨by rw [← HD.out]; rfl, Below.refl _ _⟩
    · have e2 : ((n2 : Int) == 0) = false := by simp; omega
      have e3 : d = false := by rw [← HD.out]; simp [h2]
      subst e3
      clear HD
      go_wp2_with fail
      refine hF.mono ?_
      rintro e w1 ⟨rfl, e7⟩
      subst e7
      go_wp2_with fail
      go_ret
      exact ⟨rfl, Below.refl _ _⟩
  · have e2 : ((n1 : Int) == 0) = false := by simp; omega
    have e3 : d = false := by rw [← HD.out]; simp [h1]
    subst e3
    clear HD hF
    go_wp2_with fail
    refine hW.mono ?_
    rintro e w1 ⟨rfl, e7⟩
    subst e7
    go_wp2_with fail
    go_ret
    exact ⟨rfl, Below.refl _ _⟩
end Go.Proofs.YtcgbamkfflcdfaaDoor
/- What starts, is told, comes: plain facts. No condition. -/
namespace Go.Proofs.YtcgbamkfflcdfaaDoor
open Go.RowKit
set_option linter.unusedVariables false

theorem startK_from (ws : List Pc) (h : Nat) (xs : List Fn) (hx : ∀ x ∈ xs.head?, x.seq = h) (hl : xs.length + ws.length ≤ 32) (hb : h + 32 < 65536) : startK ws (h + xs.length) xs = (h + xs.length + ws.length, [], xs ++ flyF ws (h + xs.length)) := by
  induction ws generalizing xs with
  | nil => simp [startK, flyF]
  | cons x ws ih =>
    simp only [List.length_cons] at hl
    have hr : roomK (h + xs.length) xs = true := by
      cases xs with
      | nil => rfl
      | cons y l =>
        have hy : y.seq = h := hx y (by simp)
        simp only [List.length_cons] at hl
        simp only [roomK, hy, decide_eq_true_eq, List.length_cons]
        unfold toI
        split <;> omega
    have h2 : (h + xs.length + 1) % 65536 = h + (xs ++ [(⟨x, h + xs.length, false, 0⟩ : Fn)]).length := by simp; omega
    rw [startK, if_pos hr, h2, ih _ (by
      intro z hz
      cases xs with
      | nil => simp at hz; rw [← hz]
      | cons y l => simp at hz; rw [← hz]; exact hx y (by simp)) (by simp; omega)]
    simp only [List.length_append, List.length_cons, List.length_nil, flyF, List.append_assoc, List.cons_append, List.nil_append]
    rw [show h + (xs.length + (0 + 1)) = h + xs.length + 1 by omega]
    congr 1
    omega
theorem startK_one (ws : List Pc) (h : Nat) (hl : ws.length ≤ 32) (hb : h + 32 < 65536) : startK ws h [] = (h + ws.length, [], flyF ws h) := by
  have := startK_from ws h [] (by simp) (by simpa using hl) hb
  simpa using this
theorem startK_app (a b : List Pc) (nx n' : Nat) (xs xs' : List Fn) (h : startK a nx xs = (n', [], xs')) : startK (a ++ b) nx xs = startK b n' xs' := by
  induction a generalizing nx xs with
  | nil =>
    rw [startK] at h
    injection h with h1 h2
    injection h2 with _ h2
    subst h1 h2
    rfl
  | cons x a ih =>
    rw [startK] at h
    rw [List.cons_append, startK]
    by_cases hr : roomK nx xs = true
    · rw [if_pos hr] at h ⊢
      exact ih _ _ h
    · rw [if_neg hr] at h
      injection h with _ h2
      injection h2 with h2 _
      cases h2
theorem L2.hA {w : World} {Ba ga na Bb gb nb : Nat} {pa pb : Pk} {Za Zb : Nat → Prop} (h : L2 w Ba ga pa na Bb gb pb nb Za Zb) : Ba ≤ w.heap.size := by
  obtain ⟨Sa, Sb, ha, -⟩ := h.out
  exact ha.hB
theorem split_one {l : List UInt8} (h : l.length ≤ 64) : splitP l = [⟨true, true, l⟩] := by
  have hc : cnt l.length = 1 := by unfold cnt; split <;> omega
  unfold splitP
  rw [hc]
  simp only [List.range_one, List.map_cons, List.map_nil, pieceAt, hc]
  simp [List.take_of_length_le h]
/-- A link that has nothing on its way. -/
structure Pk.Still (p : Pk) : Prop where
  ws : p.ws = []
  xs : p.xs = []
theorem still_told {p : Pk} (h : p.Still) (now : Int) : toldP now p = if p.L.ow = true then [aloneF p.L] else [] := by
  have h1 : dueP now p = [] := by unfold dueP; rw [h.ws, h.xs]; rfl
  unfold toldP
  rw [h1]
  simp
theorem still_tick {p : Pk} (h : p.Still) (now : Int) : tickP now p = { p with L := { p.L with ow := false } } := by
  obtain ⟨L, ws, xs, E, hd⟩ := p
  obtain ⟨h1, h2⟩ := h
  simp only at h1 h2
  subst h1 h2
  rfl
/-- What is told where something starts. -/
theorem fresh_told {p : Pk} (now : Int) (n : Nat) (hx : p.xs = []) (hn : p.L.nx = n) (hl : p.ws.length ≤ 32) (h0 : p.ws ≠ []) (hb : n + 32 < 65536) : toldP now p = (flyF p.ws n).map (frK p.L) := by
  have h1 : dueP now p = (flyF p.ws n).map (frK p.L) := by
    unfold dueP
    rw [hx, hn, startK_one p.ws n hl hb, sends_new now _ _ (fun x hx => (flyF_mem hx).1)]
  unfold toldP
  rw [h1, if_neg]
  intro h
  have h2 := congrArg List.length h.1
  rw [List.length_map, flyF_length] at h2
  exact h0 (List.eq_nil_of_length_eq_zero h2)
theorem fresh_tick {p : Pk} (now : Int) (n : Nat) (hx : p.xs = []) (hn : p.L.nx = n) (hl : p.ws.length ≤ 32) (hb : n + 32 < 65536) : tickP now p = { p with L := { p.L with nx := n + p.ws.length, ow := false }, ws := [], xs := (flyF p.ws n).map (tickK now) } := by
  unfold tickP
  rw [hx, hn, startK_one p.ws n hl hb]
theorem fr_ok {L : Lk} {ws : List Pc} {n : Nat} (h1 : L.ep < 65536) (h2 : L.cn < 65536) (h3 : L.cb < 4294967296) (hl : n + ws.length < 65536) (hw : ∀ x ∈ ws, x.data.length ≤ 64) : ∀ f ∈ (flyF ws n).map (frK L), f.Ok ∧ f.right = true ∧ f.epoch = L.ep ∧ f.alone = false := by
  intro f hf
  obtain ⟨x, hx, rfl⟩ := List.mem_map.1 hf
  have h4 := flyF_mem hx
  exact ⟨⟨h1, by show x.seq < 65536; omega, h2, h3⟩, decide_eq_true (hw x.p h4.2.2.1), rfl, rfl⟩
theorem alone_ok {L : Lk} (h1 : L.ep < 65536) (h2 : L.cn < 65536) (h3 : L.cb < 4294967296) : (aloneF L).Ok ∧ (aloneF L).right = true := ⟨⟨h1, show (0 : Nat) < 65536 by decide, h2, h3⟩, by rfl⟩
/-- Frames, taken one behind the other. -/
def takesP (p : Pk) (fs : List Fr) : Pk := fs.foldl (fun p f => (takeP p f).1) p
theorem takesP_next (p : Pk) (fs : List Fr) (k : Nat) (hk : k < fs.length) : takesP p (fs.take (k + 1)) = (takeP (takesP p (fs.take k)) fs[k]).1 := by
  unfold takesP
  rw [List.take_succ_eq_append_getElem hk, List.foldl_append]
  rfl
theorem takesP_ep (p : Pk) (fs : List Fr) : (takesP p fs).L.ep = p.L.ep := by
  induction fs generalizing p with
  | nil => rfl
  | cons f l ih =>
    rw [show takesP p (f :: l) = takesP (takeP p f).1 l from rfl, ih]
    unfold takeP
    split
    · rfl
    · split <;> rfl
theorem takesP_ok {p : Pk} {m : Nat} (h : p.Ok m) (fs : List Fr) : (takesP p fs).Ok m := by
  induction fs generalizing p with
  | nil => exact h
  | cons f l ih => exact ih (takeP_ok h f)
end Go.Proofs.YtcgbamkfflcdfaaDoor
/- What comes in order, what comes again: plain facts. No condition. -/
namespace Go.Proofs.YtcgbamkfflcdfaaDoor
open Go.RowKit
set_option linter.unusedVariables false

theorem Pk.Ok.tight {p : Pk} {m m' : Nat} (h : p.Ok m) (hl : p.ws.length + p.xs.length ≤ m') : p.Ok m' := ⟨h.ep, h.nx, h.cn, h.cb, h.ws, h.xs, hl, h.hd⟩
theorem come_zero : come 0 = 0 := by decide +kernel
theorem note_next {c : Nat} (hc : c < 65536) : noteN c 0 c = some ((c + 1) % 65536, 0) := by
  unfold noteN
  have h0 : toI c c = 0 := (toI_zero hc hc).2 rfl
  have h1 : hasN c 0 c = false := by unfold hasN; rw [h0]; simp
  rw [h1, h0, come_zero]
  simp
/-- What a link holds behind the frame whose turn it is. -/
structure TookN (p p' : Pk) (f : Fr) (r : Bk × List UInt8 × Bool × Nat) : Prop where
  ws : p'.ws = p.ws
  xs : p'.xs = keepX f p.xs
  L : p'.L = { p.L with cn := (p.L.cn + 1) % 65536, cb := 0, lv := r.1.leaving, ow := true }
  hd : p'.hd = r.1.held
theorem take_next {p : Pk} {f : Fr} (hc : p.L.cn < 65536) (hb : p.L.cb = 0) (hs : f.seq = p.L.cn) (ha : f.alone = false) : TookN p (takeP p f).1 f (putB ⟨p.hd, p.L.lv⟩ ⟨f.first, f.last, f.data⟩) ∧ (takeP p f).2 = (if (putB ⟨p.hd, p.L.lv⟩ ⟨f.first, f.last, f.data⟩).2.2.1 = true then [(putB ⟨p.hd, p.L.lv⟩ ⟨f.first, f.last, f.data⟩).2.1] else [], (putB ⟨p.hd, p.L.lv⟩ ⟨f.first, f.last, f.data⟩).2.2.2) := by
  have hn : noteN p.L.cn p.L.cb f.seq = some ((p.L.cn + 1) % 65536, 0) := by rw [hb, hs]; exact note_next hc
  have hd : aheadN p.L.cn ((p.L.cn + 1) % 65536) = 1 := by unfold aheadN; omega
  have e1 : drainK (firstK p f) p.L.cn 1 = putK (firstK p f) p.L.cn := by
    show putK (firstK p f) ((p.L.cn + 0) % 65536) = _
    rw [Nat.add_zero, Nat.mod_eq_of_lt hc]
  have e2 : (firstK p f).E p.L.cn = some ⟨f.first, f.last, f.data⟩ := by unfold firstK; simp [hs]
  have e3 : (firstK p f).k = ⟨p.hd, p.L.lv⟩ := rfl
  unfold takeP
  rw [if_neg (by rw [ha]; decide)]
  simp only [hn, hd, e1]
  unfold putK
  simp only [e2, Option.getD_some, e3]
  refine ⟨⟨rfl, rfl, rfl, rfl⟩, ?_⟩
  congr 1
  split
  · rename_i h0; rw [h0]; rfl
  · rfl
/-- One that has come already. -/
theorem take_had {p : Pk} {f : Fr} (h : hasN p.L.cn p.L.cb f.seq = true) (ha : f.alone = false) : takeP p f = ({ p with xs := keepX f p.xs, L := { p.L with ow := true } }, [], 0) := by
  unfold takeP
  rw [if_neg (by rw [ha]; decide)]
  simp only [noteN_had h]
theorem take_alone {p : Pk} {f : Fr} (ha : f.alone = true) : takeP p f = ({ p with xs := keepX f p.xs }, [], 0) := by
  unfold takeP
  rw [if_pos ha]
theorem has_old {c y s : Nat} (hc : c < 32768) (hs : s < c) : hasN c y s = true := by
  unfold hasN
  have h1 : toI c s < 0 := by unfold toI; split <;> omega
  simp [h1]
/-- Piece j of a message goes into the basket. -/
theorem put_piece {l : List UInt8} (hl : l.length ≤ 1024) {j : Nat} (hj : j < cnt l.length) :
    putB ⟨l.take (64 * j), false⟩ (pieceAt l j) = if j + 1 = cnt l.length then (⟨[], false⟩, l, true, 0) else (⟨l.take (64 * (j + 1)), false⟩, [], false, 0) := by
  have hc : cnt l.length = if l.length = 0 then 1 else (l.length + 63) / 64 := rfl
  have hjl : 64 * j ≤ l.length := by rw [hc] at hj; split at hj <;> omega
  have h1 : (l.take (64 * j)).length = 64 * j := by rw [List.length_take]; omega
  have h2 : (pieceAt l j).data.length = min 64 (l.length - 64 * j) := by simp [pieceAt]
  have hcat : l.take (64 * j) ++ (pieceAt l j).data = l.take (64 * (j + 1)) := by
    show l.take (64 * j) ++ (l.drop (64 * j)).take 64 = _
    rw [show 64 * (j + 1) = 64 * j + 64 by omega, List.take_add]
  have hr : refuseN ⟨l.take (64 * j), false⟩ (pieceAt l j) = 0 := by
    unfold refuseN
    rw [if_neg, if_neg, if_neg, if_neg]
    · rw [h2, h1]; omega
    · rw [h2]
      rintro ⟨h3, h4⟩
      have h3 : decide (j + 1 = cnt l.length) = false := h3
      simp only [decide_eq_false_iff_not] at h3
      rw [hc] at h3 hj
      by_cases h9 : l.length = 0
      · rw [if_pos h9] at h3 hj; omega
      · rw [if_neg h9] at h3 hj; omega
    · rw [h2]; omega
    · show ¬ decide (j = 0) = decide (0 < (l.take (64 * j)).length)
      rw [h1]
      by_cases h0 : j = 0
      · simp [h0]
      · have : 0 < 64 * j := by omega
        simp [h0, this]
  unfold putB
  rw [if_neg (by simp), if_neg (by rw [hr]; simp)]
  by_cases hlast : j + 1 = cnt l.length
  · rw [if_pos (show (pieceAt l j).last = true by show decide (j + 1 = cnt l.length) = true; simpa using hlast), if_pos hlast]
    have h3 : l.take (64 * (j + 1)) = l := List.take_of_length_le (by rw [hlast, hc]; split <;> omega)
    show (_, l.take (64 * j) ++ (pieceAt l j).data, _, _) = _
    rw [hcat, h3]
  · rw [if_neg (show ¬ (pieceAt l j).last = true by show ¬ decide (j + 1 = cnt l.length) = true; simpa using hlast), if_neg hlast]
    show ((⟨l.take (64 * j) ++ (pieceAt l j).data, false⟩ : Bk), _, _, _) = _
    rw [hcat]
theorem flyF_get (ws : List Pc) (n j : Nat) (hj : j < ws.length) : (flyF ws n)[j]'(by rw [flyF_length]; exact hj) = ⟨ws[j], n + j, false, 0⟩ := by
  induction ws generalizing n j with
  | nil => cases hj
  | cons x l ih =>
    cases j with
    | zero => rfl
    | succ j =>
      have := ih (n + 1) j (by simpa using hj)
      simp only [flyF, List.getElem_cons_succ]
      rw [this]
      congr 1
      omega
/-- All that fly were answered. -/
theorem keepX_all {f : Fr} {xs : List Fn} {c : Nat} (hf : f.next = c) (hc : c < 32768) (hx : ∀ x ∈ xs, x.seq < c) : keepX f xs = [] := by
  unfold keepX
  rw [List.filter_eq_nil_iff]
  intro x h
  have h1 : goneN f x = true := by unfold goneN; rw [hf]; exact has_old hc (hx x h)
  simp [h1]
set_option maxHeartbeats 8000000 in
set_option maxRecDepth 20000 in
theorem bytesF_calls (n b : Nat) (w : World) (hn : n ≤ 65535) (hb : b ≤ 255) :
    Calls Tryd.prog 14 #[.int .u16 (n : Int), .int .u8 (b : Int)] w fun e w' => ∃ c bb, e = .returned (.slice (some ⟨bb, 0, none⟩) (n % 1100) c) ∧ n % 1100 ≤ c ∧ c ≤ maxLen ∧ Bs w' bb (some ⟨bb, 0, none⟩) (bytesN (n % 1100) b) ∧ w.heap.size ≤ bb ∧ Below w.heap.size w w' := by
  obtain ⟨m, hm⟩ : ∃ m, m = n % 1100 := ⟨_, rfl⟩
  have hmi : (n : Int) % 1100 = (m : Int) := by omega
  have hm1 : m < 1100 := by omega
  rw [← hm]
  clear hm
  go_enter Tryd.func14, Tryd.ntmps14
  go_wp2_with (refine at_mk 31 _ _ ?_; refine wpList_mkU w rfl _ _ rfl m _ hmi rfl rfl (by omega) ?_; intro w2 hrow hb2)
  obtain ⟨g, hg⟩ : ∃ g, g = w.heap.size := ⟨_, rfl⟩
  have hr0 : Row w2 g (.slice (some ⟨g, 0, none⟩) m m) (bytesTo m b 0) := by rw [hg]; simpa [bytesTo, bytesN] using hrow
  rw [← hg]
  have hgw : w.heap.size ≤ g := by omega
  clear hrow hg
  go_loopw [12] (fun i wr => ∃ k : Nat, k ≤ m ∧ i = .int .i64 k ∧ Row wr g (.slice (some ⟨g, 0, none⟩) m m) (bytesTo m b k) ∧ Below w.heap.size w wr) (fun i _ => m - (intOf i).toNat)
  case atStart => exact ⟨0, Nat.zero_le _, rfl, hr0, hb2⟩
  case round =>
    clear hr0 hb2
    obtain ⟨k, hk, rfl, hr, hbr⟩ := hrel
    by_cases hlt : k < m
    · obtain ⟨g', cap, hv, hBg, hgl, hc, hf, hset⟩ := Row.set_ hr (k := k) (by rw [bytesTo_length m b k hk]; exact hlt)
      injection hv with hA e1 e2
      injection hA with hA
      injection hA with hA
      subst hA
      clear e1 e2 hc
      have hnx := bytesTo_set m b k hlt
      obtain ⟨y, hy⟩ : ∃ y, y = UInt8.ofNat (b + k) := ⟨_, rfl⟩
      have hyv : ((b : Int) + (k : Int) % 256) % 256 = (y.toNat : Int) := by rw [hy, UInt8.toNat_ofNat']; omega
      have hyv2 : ((b : Int) + (k : Int)) % 256 = (y.toNat : Int) := by rw [hy, UInt8.toNat_ofNat']; omega
      rw [← hy] at hnx
      have HR := Lib.hid ((hset y y.toNat _ rfl rfl).cast hnx)
      have HB := Lib.hid (hbr.setCell (p := ⟨g, k, none⟩) hgw (.int .u8 (y.toNat : Int)))
      obtain ⟨u0, hu0⟩ : ∃ u, wr.cell? ⟨g, k, none⟩ = some u := by
        obtain ⟨oa, hA, hca⟩ := Bs.at_ (Row.bs_ hr).2.2 (k := k) (by rw [bytesTo_length m b k hk]; exact hlt)
        injection hA with hA
        injection hA with _ hA _
        subst hA
        exact ⟨_, by have := hca k (by rw [bytesTo_length m b k hk]; exact hlt); simpa using this⟩
      clear hset hr hbr hnx hy
      go_wp2_with fail
      go_roundw
      case rel => exact ⟨k + 1, by omega, by go_num, HR.out, HB.out⟩
      case measure => simp [intOf]; omega
    · obtain rfl : k = m := by omega
      have hs := (Row.bs_ hr).2.2
      have e : bytesTo k b k = bytesN k b := by simp [bytesTo]
      rw [e] at hs
      clear hr e
      go_wp2_with fail
      go_ret
      exact ⟨k, g, rfl, Nat.le_refl _, by simp only [maxLen]; omega, hs, hgw, hbr⟩
theorem bytesF_at (n b : Nat) (I J : Int) (hI : I = (n : Int)) (hJ : J = (b : Int)) (w : World) (hn : n < 1100) (hb : b ≤ 255) :
    Calls Tryd.prog 14 #[.int .u16 I, .int .u8 J] w fun e w' => ∃ c bb, e = .returned (.slice (some ⟨bb, 0, none⟩) n c) ∧ n ≤ c ∧ c ≤ maxLen ∧ Bs w' bb (some ⟨bb, 0, none⟩) (bytesN n b) ∧ w.heap.size ≤ bb ∧ Below w.heap.size w w' := by
  subst hI hJ
  have h := bytesF_calls n b w (by omega) hb
  rw [Nat.mod_eq_of_lt hn] at h
  exact h
/-- What is made new is none of either's. -/
theorem L2.fence {w w' : World} {Ba ga na Bb gb nb : Nat} {pa pb : Pk} {Za Zb : Nat → Prop} (h : L2 w Ba ga pa na Bb gb pb nb Za Zb) (hm : Below w.heap.size w w') : L2 w' Ba ga pa na Bb gb pb nb (fun i => Za i ∨ (w.heap.size ≤ i ∧ i < w'.heap.size)) (fun i => Zb i ∨ (w.heap.size ≤ i ∧ i < w'.heap.size)) := by
  have h1 := h.ext hm
  obtain ⟨Sa, Sb, ha, hb, d, za, zb⟩ := h.out
  exact ⟨⟨Sa, Sb, ha.ext hm, hb.ext hm, d, fun i hi hh => by
    rcases hh with hh | hh
    · exact za i hi hh
    · have := ha.lt i hi; omega, fun i hi hh => by
    rcases hh with hh | hh
    · exact zb i hi hh
    · have := hb.lt i hi; omega⟩, h1.tab, h1.ta, h1.tb, fun i hi => by
    rcases hi with hi | hi
    · exact h1.za i hi
    · exact hi.2, fun i hi => by
    rcases hi with hi | hi
    · exact h1.zb i hi
    · exact hi.2⟩
section
variable {w : World} {Ba ga na Bb gb nb : Nat} {pa pb : Pk} {Za Zb : Nat → Prop}
theorem L2SendK (h : L2 w Ba ga pa na Bb gb pb nb Za Zb) (A : Option Addr) (l : List UInt8) (n c b : Nat) (hs : Bs w b A l) (hn : l.length = n) (h1024 : n ≤ 1024) (hc : n ≤ c) (hcm : c ≤ maxLen) (hroom : pa.ws.length + cnt n ≤ 128) :
    Calls Tryd.prog 15 #[.pointer (some ⟨ga, 0, none⟩), .slice A n c] w fun e w' => e = .returned (.int .i64 0) ∧ L2 w' Ba ga (sendP pa l) na Bb gb pb nb Za Zb ∧ TMods LTs Ba w w' ∧ Kept Ba Za w w' := by
  obtain ⟨Sa, Sb, ha, hb, d, za, zb⟩ := h.out
  exact (LrSend_calls Ba ga Sa pa na A l n c b w ha hs hn h1024 hc hcm hroom).mono fun e w' ⟨he, ho, hT⟩ => ⟨he, (h.step hb ha.ge d za zb ho).mono (fun i hi => hi) (fun i hi => .inl hi), hT, ⟨Sa, ho.mod, za, ha.ge⟩⟩
theorem L2TickK (h : L2 w Ba ga pa na Bb gb pb nb Za Zb) (m : Nat) (now : Int) (hok : pa.Ok m) (hm : m ≤ 100000) (hnow : 0 ≤ now ∧ now ≤ 1000000) (n : Nat) (fs : List Fr) (hfs : toldP now pa = fs) (hn : fs.length = n) :
    Calls Tryd.prog 17 #[.pointer (some ⟨ga, 0, none⟩), .int .i64 now] w fun e w' => ∃ A c us, e = .returned (.slice A n c) ∧ L2 w' Ba ga (tickP now pa) na Bb gb pb nb Za (fun i => Zb i ∨ (w.heap.size ≤ i ∧ i < w'.heap.size)) ∧ ToldZ w' (fun i => w.heap.size ≤ i ∧ i < w'.heap.size) A n c us fs ∧ TMods LTs Ba w w' ∧ Kept Ba Za w w' := by
  obtain ⟨Sa, Sb, ha, hb, d, za, zb⟩ := h.out
  refine (LrTick_calls Ba ga Sa pa na m now w ha hok hm hnow).mono ?_
  rintro e w' ⟨vo, rfl, ⟨ho, ⟨us, hvo, hI⟩, hT⟩⟩
  rw [hfs] at hI
  have hul : us.length = n := by rw [hI.1, List.length_map]; exact hn
  have hvo2 := hvo
  obtain ⟨A1, c1, b1, hv, -⟩ := RowS.sl hvo2
  rw [hul] at hv
  subst hv
  refine ⟨A1, c1, us, rfl, h.step hb ha.ge d za zb ho, ⟨⟨w.heap.size, hvo, hI, hn⟩, fun k hk => World.ownsRow.lt hvo k hk, fun u hu k hk => ?_⟩, hT, ⟨Sa, ho.mod, za, ha.ge⟩⟩
  obtain ⟨j, hj, hju⟩ := List.getElem_of_mem hu
  have hjl : j < (fs.map fun f => sealedL f.raw).length := by rw [← hI.1]; exact hj
  obtain ⟨u', h1, h2⟩ := hI.2 j _ (List.getElem?_eq_getElem hjl)
  rw [List.getElem?_eq_getElem hj] at h1
  injection h1 with h1
  rw [hju] at h1
  subst h1
  exact World.ownsRow.lt h2 k hk
end
/-- A list of bytes in a block of Z stays. -/
theorem Kept.bs {B : Nat} {Z : Nat → Prop} {w w' : World} (h : Kept B Z w w') {b : Nat} {A : Option Addr} {l : List UInt8} (hs : Bs w b A l) (hz : l ≠ [] → Z b) : Bs w' b A l := by
  obtain ⟨S, hm, h1, -⟩ := h.out
  exact Bs.modne hs hm (fun h0 hh => h1 b hh (hz h0))
/-- One of the lists told. -/
theorem row_at {w : World} {C D n c : Nat} {A : Option Addr} {us : List Value} {ls : List (List UInt8)} (h : RowS w C (.slice A n c) us) (hI : RowsIn w D us ls) {k : Nat} (hk : k < n) (hkl : k < ls.length) :
    ∃ g oa A2 m c2 b2, A = some ⟨g, oa, none⟩ ∧ w.cell? ⟨g, oa + k, none⟩ = some (.slice A2 m c2) ∧ ls[k].length = m ∧ m ≤ c2 ∧ Bs w b2 A2 ls[k] := by
  obtain ⟨u, hu, hr⟩ := hI.2 k _ (List.getElem?_eq_getElem hkl)
  obtain ⟨A2, c2, b2, rfl, hc, -, -, -, hs, -⟩ := hr.sl
  obtain ⟨A3, c3, b, hv, -, -, -, hsl, -⟩ := RowS.sl h
  injection hv with e1 e2 e3
  subst e1
  obtain ⟨oa, e4, hca⟩ := hsl (by rintro rfl; simp at hu)
  subst e4
  exact ⟨_, _, A2, _, c2, b2, rfl, hca k _ hu, rfl, hc, hs⟩
theorem row_cap {w : World} {C n c : Nat} {A : Option Addr} {us : List Value} (h : RowS w C (.slice A n c) us) : n ≤ c := by
  obtain ⟨A3, c3, b, hv, h1, -⟩ := RowS.sl h
  injection hv with e1 e2 e3
  rw [e2, e3]
  exact h1
end Go.Proofs.YtcgbamkfflcdfaaDoor
/- Send of anything; Take of what is no frame. Conditions: those said. -/
namespace Go.Proofs.YtcgbamkfflcdfaaDoor
open Go.RowKit
set_option linter.unusedVariables false

set_option maxHeartbeats 2000000 in
set_option maxRecDepth 20000 in
theorem LSend_long (g n : Nat) (A : Option Addr) (c : Nat) (w : World) (h : 1024 < n) (hm : n ≤ 1000000) :
    Calls Tryd.prog 15 #[.pointer (some ⟨g, 0, none⟩), .slice A n c] w fun e w' => e = .returned (.int .i64 4) ∧ Below w.heap.size w w' := by
  have hS := fun W => Split_long A n c W h (by simp only [maxLen]; omega)
  go_enter Tryd.func15, Tryd.ntmps15
  go_wp2_with fail
  refine (hS _).mono ?_
  rintro e w1 ⟨rfl, rfl⟩
  clear hS
  go_wp2_with fail
  go_ret
  exact ⟨rfl, Below.refl _ _⟩
set_option maxHeartbeats 4000000 in
set_option maxRecDepth 20000 in
theorem LSend_full (g bm : Nat) (L : Lk) (A1 : Option Addr) (n1 k1 : Nat) (vf vh : Value) (A : Option Addr) (l : List UInt8) (n c b : Nat) (w : World) (q : LkB w g bm L (.slice A1 n1 k1) vf vh) (hs : Bs w b A l) (hn : l.length = n) (h1024 : n ≤ 1024) (hc : n ≤ c) (hcm : c ≤ maxLen) (hn1 : n1 ≤ 1000) (hroom : 128 < n1 + cnt n) :
    Calls Tryd.prog 15 #[.pointer (some ⟨g, 0, none⟩), .slice A n c] w fun e w' => e = .returned (.int .i64 6) ∧ Below w.heap.size w w' := by
  have hS := fun W h => Split_calls A l n c b W h hn h1024 hc hcm
  have HN := Lib.hid hn
  have hcn := cnt_le n h1024
  clear hn
  go_enter Tryd.func15, Tryd.ntmps15
  go_wp2_with fail
  refine (hS _ hs).mono ?_
  rintro e w1 ⟨v, xs, rfl, hxs, hrow, hin, hb⟩
  have hxl : xs.length = cnt n := by
    have := congrArg List.length hxs
    rw [List.length_map, splitP_length, HN.out] at this
    exact this
  obtain ⟨A5, c5, b5, hve, -, -, -, -, hs5, -⟩ := ownsP_sl hrow
  obtain ⟨m, hm⟩ : ∃ m, m = xs.length := ⟨_, rfl⟩
  rw [← hm] at hve hxl
  subst hve
  have c1 := (q.ext hb).c1
  have e1 : decide (((n1 : Int) + (m : Int)) > 128) = true := by simp; omega
  have e2 : (128 : Int) < (n1 : Int) + (m : Int) := by omega
  have e3 : (m : Int) ≤ 16 := by omega
  have e4 : (n1 : Int) ≤ 1000 := by omega
  clear hS hm hxs hrow hin q hs5 hxl
  go_wp2_with fail
  go_ret
  exact ⟨rfl, hb⟩
/-- A message is sent: the link behind it, the error. -/
def sendQ (p : Pk) (l : List UInt8) : Pk × Nat := if 1024 < l.length then (p, 4) else if 128 < p.ws.length + cnt l.length then (p, 6) else (sendP p l, 0)
theorem L2SendQ {w : World} {Ba ga na Bb gb nb : Nat} {pa pb : Pk} {Za Zb : Nat → Prop} (h : L2 w Ba ga pa na Bb gb pb nb Za Zb) (A : Option Addr) (l : List UInt8) (n c b : Nat) (hs : Bs w b A l) (hn : l.length = n) (hn2 : n ≤ 2000) (hc : n ≤ c) (hcm : c ≤ maxLen) (hw : pa.ws.length ≤ 1000) (r : Pk × Nat) (hr : sendQ pa l = r) :
    Calls Tryd.prog 15 #[.pointer (some ⟨ga, 0, none⟩), .slice A n c] w fun e w' => e = .returned (.int .i64 (r.2 : Int)) ∧ L2 w' Ba ga r.1 na Bb gb pb nb Za Zb ∧ Kept Ba Za w w' := by
  have hk0 : ∀ w', Below w.heap.size w w' → Kept Ba Za w w' := fun w' hb => ⟨⟨fun _ => False, (Mod.of_below hb).mono (fun i hi h9 => absurd hi (by omega)), fun i h => h.elim, fun i h => h.elim⟩⟩
  subst hr
  unfold sendQ
  rw [hn]
  by_cases h1 : 1024 < n
  · rw [if_pos h1]
    exact (LSend_long ga n A c w h1 (by omega)).mono fun e w' ⟨he, hb⟩ => ⟨he, h.ext hb, hk0 w' hb⟩
  · rw [if_neg h1]
    by_cases h2 : 128 < pa.ws.length + cnt n
    · rw [if_pos h2]
      obtain ⟨Sa, Sb, ha, -⟩ := h.out
      obtain ⟨bm, vw, vf, vh, wv, xv, E, q, k1, -⟩ := ha.out
      obtain ⟨A1, kk, b1, rfl, -⟩ := ownsP_sl q.s.rp
      have hwl : wv.length = pa.ws.length := by rw [← k1, List.length_map]
      exact (LSend_full ga bm pa.L A1 wv.length kk vf vh A l n c b w q.s.q hs hn (by omega) hc hcm (by omega) (by omega)).mono fun e w' ⟨he, hb⟩ => ⟨he, h.ext hb, hk0 w' hb⟩
    · rw [if_neg h2]
      exact (L2SendK h A l n c b hs hn (by omega) hc hcm (by omega)).mono fun e w' ⟨he, hp, _, hk⟩ => ⟨he, hp, hk⟩
theorem sendQ_ok {p : Pk} {m : Nat} (h : p.Ok m) (l : List UInt8) : (sendQ p l).1.Ok (m + 16) := by
  unfold sendQ
  split
  · exact h.mono (by omega)
  · split
    · exact h.mono (by omega)
    · have := cnt_le l.length (by omega)
      exact (sendP_ok h l).mono (by omega)
set_option maxHeartbeats 4000000 in
set_option maxRecDepth 20000 in
theorem Take_none (g : Nat) (w : World) :
    Calls Tryd.prog 18 #[.pointer (some ⟨g, 0, none⟩), .slice none 0 0] w fun e w' => e = .returned (.tuple #[.slice none 0 0, .int .i64 2]) ∧ Below w.heap.size w w' := by
  have hP := Parse_no none [] 0 0 0 2 w (by decide) (fun W _ => Open_short none 0 0 W (by omega)) (Sl.nil_ _ _ _)
  go_enter Tryd.func18, Tryd.ntmps18
  go_wp2_with fail
  refine hP.mono ?_
  rintro e w1 ⟨rfl, hb1⟩
  clear hP
  go_wp2_with fail
  go_ret2
  exact ⟨rfl, hb1.trans ((below_alloc1 w1 _).mono hb1.size)⟩
theorem L2TakeM {w : World} {Ba ga na Bb gb nb : Nat} {pa pb : Pk} {Za Zb : Nat → Prop} (h : L2 w Ba ga pa na Bb gb pb nb Za Zb) (m : Nat) (f : Fr) (A : Option Addr) (n c b : Nat) (hok : pa.Ok m) (hm : m ≤ 100000) (hna : na ≤ 1000000) (ho : f.Ok) (hr : f.right = true) (hs : Bs w b A (sealedL f.raw)) (hn : (sealedL f.raw).length = n) (hc : n ≤ c) (hep : f.epoch = pa.L.ep) (r : Pk × List (List UInt8) × Nat) (hR : takeP pa f = r) :
    Calls Tryd.prog 18 #[.pointer (some ⟨ga, 0, none⟩), .slice A n c] w fun e w' => ∃ (A' : Option Addr) (c' : Nat) (us : List Value) (M : Nat → Prop), e = .returned (.tuple #[.slice A' r.2.1.length c', .int .i64 (r.2.2 : Int)]) ∧ L2 w' Ba ga r.1 (na + 1) Bb gb pb nb Za (fun i => Zb i ∨ M i) ∧ RowS w' w.heap.size (.slice A' r.2.1.length c') us ∧ RowsIn w' Ba us r.2.1 ∧ (∀ k, (Value.slice A' r.2.1.length c').ownBlock = some k → M k) ∧ (∀ u ∈ us, ∀ k, u.ownBlock = some k → M k) ∧ Kept Ba Za w w' := by
  obtain ⟨Sa, Sb, ha, hb, d, za, zb⟩ := h.out
  have hl := Fr.right_len hr
  subst hR
  refine (LrTake_calls Ba ga Sa pa na m f A n c w ha hok hm hna (Parse_own f A n c b w ho hr hs hn hc) ho (by simp only [maxLen]; omega) hep h.tab h.ta).mono ?_
  rintro e w' ⟨vo, rfl, ⟨ho', ⟨us, hvo, hI, hib⟩, hT⟩⟩
  have hvo2 := hvo
  obtain ⟨A1, c1, b1, hv, -⟩ := RowS.sl hvo2
  rw [hI.1] at hv
  subst hv
  have h1 := h.step hb ha.ge d za zb ho'
  refine ⟨A1, c1, us, grow Sa w w', rfl, ⟨⟨grow Sa w w', Sb, ho'.lr, hb.keep ho'.mod (fun i hi hh => d i hh hi), fun i hi hh => ?_, fun i hi hh => ?_, fun i hi hh => ?_⟩, h1.tab, h.ta, h.tb, h1.za, fun i hi => ?_⟩, hvo, hI, fun k hk => .inr (World.ownsRow.lt hvo k hk), hib, ⟨Sa, ho'.mod, za, ha.ge⟩⟩
  · rcases hi with hi | hi
    · exact d i hi hh
    · have := hb.lt i hh; omega
  · rcases hi with hi | hi
    · exact za i hi hh
    · have := h.za i hh; omega
  · rcases hh with hh | hh | hh
    · exact zb i hi hh
    · exact d i hh hi
    · have := hb.lt i hi; omega
  · rcases hi with hi | hi
    · exact Nat.lt_of_lt_of_le (h.zb i hi) ho'.mod.size
    · exact grow_lt ha.lt ho'.mod.size i hi
end Go.Proofs.YtcgbamkfflcdfaaDoor
/- Two links that are told messages of the same lengths, and take the same. No condition: plain lemmas. -/
namespace Go.Proofs.YtcgbamkfflcdfaaDoor
open Go.RowKit
set_option linter.unusedVariables false

def shP (x : Pc) : Bool × Bool × Nat := (x.first, x.last, x.data.length)
def shF (x : Fn) : (Bool × Bool × Nat) × Nat × Bool × Int := (shP x.p, x.seq, x.sent, x.at_)
def shR (f : Fr) : (Nat × Nat × Nat × Nat) × Bool × Bool × Bool × Nat := ((f.epoch, f.seq, f.next, f.bits), f.first, f.last, f.alone, f.data.length)
/-- Alike but for what the pieces say. -/
structure Sim (p q : Pk) : Prop where
  L : p.L = q.L
  E : p.E = q.E
  hd : p.hd = q.hd
  ws : p.ws.map shP = q.ws.map shP
  xs : p.xs.map shF = q.xs.map shF
theorem Sim.refl (p : Pk) : Sim p p := ⟨rfl, rfl, rfl, rfl, rfl⟩
theorem split_sh {l l' : List UInt8} (h : l.length = l'.length) : (splitP l).map shP = (splitP l').map shP := by
  unfold splitP
  rw [h, List.map_map, List.map_map]
  refine List.map_congr_left fun i _ => ?_
  show shP (pieceAt l i) = shP (pieceAt l' i)
  simp [shP, pieceAt, h]
theorem Sim.wl {p q : Pk} (h : Sim p q) : p.ws.length = q.ws.length := by
  have := congrArg List.length h.ws
  simpa using this
theorem Sim.xl {p q : Pk} (h : Sim p q) : p.xs.length = q.xs.length := by
  have := congrArg List.length h.xs
  simpa using this
theorem Sim.qsend {p q : Pk} (h : Sim p q) {l l' : List UInt8} (hl : l.length = l'.length) : Sim (sendQ p l).1 (sendQ q l').1 ∧ (sendQ p l).2 = (sendQ q l').2 := by
  unfold sendQ
  rw [hl, h.wl]
  split
  · exact ⟨h, rfl⟩
  · split
    · exact ⟨h, rfl⟩
    · refine ⟨⟨h.L, h.E, h.hd, ?_, h.xs⟩, rfl⟩
      show (p.ws ++ splitP l).map shP = (q.ws ++ splitP l').map shP
      rw [List.map_append, List.map_append, h.ws, split_sh hl]
theorem room_sh (nx : Nat) {xs ys : List Fn} (h : xs.map shF = ys.map shF) : roomK nx xs = roomK nx ys := by
  cases xs with
  | nil =>
    cases ys with
    | nil => rfl
    | cons y l => cases h
  | cons x l =>
    cases ys with
    | nil => cases h
    | cons y l' =>
      simp only [List.map_cons] at h
      injection h with h1 _
      have h2 : x.seq = y.seq := congrArg (fun t => t.2.1) h1
      simp only [roomK, h2]
theorem start_sh (ws vs : List Pc) (nx : Nat) (xs ys : List Fn) (h1 : ws.map shP = vs.map shP) (h2 : xs.map shF = ys.map shF) :
    (startK ws nx xs).1 = (startK vs nx ys).1 ∧ (startK ws nx xs).2.1.map shP = (startK vs nx ys).2.1.map shP ∧ (startK ws nx xs).2.2.map shF = (startK vs nx ys).2.2.map shF := by
  induction ws generalizing vs nx xs ys with
  | nil =>
    cases vs with
    | nil => exact ⟨rfl, rfl, h2⟩
    | cons v l => cases h1
  | cons x ws ih =>
    cases vs with
    | nil => cases h1
    | cons v vs =>
      have hx := h1
      simp only [List.map_cons] at h1
      injection h1 with h3 h4
      rw [startK, startK, room_sh nx h2]
      split
      · refine ih vs ((nx + 1) % 65536) (xs ++ [⟨x, nx, false, 0⟩]) (ys ++ [⟨v, nx, false, 0⟩]) h4 ?_
        rw [List.map_append, List.map_append, h2]
        simp [shF, h3]
      · exact ⟨rfl, hx, h2⟩
theorem due_sh (now : Int) {x y : Fn} (h : shF x = shF y) : dueK now x = dueK now y := by
  have h1 : x.sent = y.sent := congrArg (fun t => t.2.2.1) h
  have h2 : x.at_ = y.at_ := congrArg (fun t => t.2.2.2) h
  unfold dueK
  rw [h1, h2]
theorem tickK_sh (now : Int) {x y : Fn} (h : shF x = shF y) : shF (tickK now x) = shF (tickK now y) := by
  have h0 : shP x.p = shP y.p := congrArg (fun t => t.1) h
  have h1 : x.seq = y.seq := congrArg (fun t => t.2.1) h
  unfold tickK
  rw [due_sh now h]
  split
  · simp [shF, h0, h1]
  · exact h
theorem map_sh {f : Fn → Fn} (hf : ∀ x y, shF x = shF y → shF (f x) = shF (f y)) (xs ys : List Fn) (h : xs.map shF = ys.map shF) : (xs.map f).map shF = (ys.map f).map shF := by
  induction xs generalizing ys with
  | nil =>
    cases ys with
    | nil => rfl
    | cons y l => cases h
  | cons x l ih =>
    cases ys with
    | nil => cases h
    | cons y l' =>
      simp only [List.map_cons] at h
      injection h with h1 h2
      simp only [List.map_cons, hf x y h1, ih l' h2]
theorem filter_sh {P Q : Fn → Bool} (hf : ∀ x y, shF x = shF y → P x = Q y) (xs ys : List Fn) (h : xs.map shF = ys.map shF) : (xs.filter P).map shF = (ys.filter Q).map shF := by
  induction xs generalizing ys with
  | nil =>
    cases ys with
    | nil => rfl
    | cons y l => cases h
  | cons x l ih =>
    cases ys with
    | nil => cases h
    | cons y l' =>
      simp only [List.map_cons] at h
      injection h with h1 h2
      rw [List.filter_cons, List.filter_cons, hf x y h1]
      split
      · simp only [List.map_cons, h1, ih l' h2]
      · exact ih l' h2
theorem fr_sh (L : Lk) {xs ys : List Fn} (h : xs.map shF = ys.map shF) : (xs.map (frK L)).map shR = (ys.map (frK L)).map shR := by
  induction xs generalizing ys with
  | nil =>
    cases ys with
    | nil => rfl
    | cons y l => cases h
  | cons x l ih =>
    cases ys with
    | nil => cases h
    | cons y l' =>
      simp only [List.map_cons] at h
      injection h with h1 h2
      have h0 : shP x.p = shP y.p := congrArg (fun t => t.1) h1
      have h3 : x.seq = y.seq := congrArg (fun t => t.2.1) h1
      have k1 : x.p.first = y.p.first := congrArg (fun t => t.1) h0
      have k2 : x.p.last = y.p.last := congrArg (fun t => t.2.1) h0
      have k3 : x.p.data.length = y.p.data.length := congrArg (fun t => t.2.2) h0
      simp only [List.map_cons, ih h2]
      congr 1
      simp [shR, frK, k1, k2, k3, h3]
theorem Sim.tick {p q : Pk} (h : Sim p q) (now : Int) : Sim (tickP now p) (tickP now q) ∧ (toldP now p).map shR = (toldP now q).map shR := by
  obtain ⟨s1, s2, s3⟩ := start_sh p.ws q.ws p.L.nx p.xs q.xs h.ws h.xs
  have hd : (dueP now p).map shR = (dueP now q).map shR := by
    unfold dueP sendsK
    rw [show frK p.L = frK q.L by rw [h.L]]
    refine fr_sh q.L ?_
    rw [← h.L]
    exact filter_sh (fun x y hxy => due_sh now hxy) _ _ s3
  have hn : dueP now p = [] ↔ dueP now q = [] := by
    constructor
    · intro h0
      rw [h0] at hd
      exact List.map_eq_nil_iff.1 hd.symm
    · intro h0
      rw [h0] at hd
      exact List.map_eq_nil_iff.1 hd
  refine ⟨⟨?_, h.E, h.hd, ?_, ?_⟩, ?_⟩
  · show ({ p.L with nx := (startK p.ws p.L.nx p.xs).1, ow := false } : Lk) = { q.L with nx := (startK q.ws q.L.nx q.xs).1, ow := false }
    rw [s1, h.L]
  · show (startK p.ws p.L.nx p.xs).2.1.map shP = (startK q.ws q.L.nx q.xs).2.1.map shP
    rw [s2, h.L]
  · show ((startK p.ws p.L.nx p.xs).2.2.map (tickK now)).map shF = ((startK q.ws q.L.nx q.xs).2.2.map (tickK now)).map shF
    rw [h.L] at s3 ⊢
    exact map_sh (fun x y hxy => tickK_sh now hxy) _ _ s3
  · unfold toldP
    rw [h.L]
    by_cases h0 : dueP now q = [] ∧ q.L.ow = true
    · rw [if_pos ⟨hn.2 h0.1, h0.2⟩, if_pos h0]
    · rw [if_neg (fun h9 => h0 ⟨hn.1 h9.1, h9.2⟩), if_neg h0]
      exact hd
theorem Sim.take {p q : Pk} (h : Sim p q) (f : Fr) : Sim (takeP p f).1 (takeP q f).1 ∧ (takeP p f).2 = (takeP q f).2 := by
  have hx : (keepX f p.xs).map shF = (keepX f q.xs).map shF := filter_sh (fun x y hxy => by
    have h1 : x.seq = y.seq := congrArg (fun t => t.2.1) hxy
    unfold goneN
    rw [h1]) _ _ h.xs
  have hk : firstK p f = firstK q f := by unfold firstK; rw [h.E, h.hd, h.L]
  unfold takeP
  split
  · exact ⟨⟨h.L, h.E, h.hd, h.ws, hx⟩, rfl⟩
  · rw [h.L, hk]
    split
    · exact ⟨⟨by first | rfl | (simp only [h.L]), h.E, h.hd, h.ws, hx⟩, rfl⟩
    · exact ⟨⟨by first | rfl | (simp only [h.L]), rfl, rfl, h.ws, hx⟩, rfl⟩
/-! ### what is told -/
def pre12 (f : Fr) : List UInt8 := low 86 1 ++ low f.epoch 2 ++ low f.seq 2 ++ low f.next 2 ++ low f.bits 4 ++ low f.marks 1
theorem pre12_len (f : Fr) : (pre12 f).length = 12 := by simp [pre12]
theorem seal_pre (f : Fr) : sealedL f.raw = pre12 f ++ ((num f.data.length ++ f.data) ++ low (sumN f.raw) 4) := by
  unfold sealedL Fr.raw pre12
  simp only [List.append_assoc]
theorem pre_sh {f g : Fr} (h : shR f = shR g) : pre12 f = pre12 g := by
  have h0 : (f.epoch, f.seq, f.next, f.bits) = (g.epoch, g.seq, g.next, g.bits) := congrArg (fun t => t.1) h
  have k1 : f.epoch = g.epoch := congrArg (fun t => t.1) h0
  have k2 : f.seq = g.seq := congrArg (fun t => t.2.1) h0
  have k3 : f.next = g.next := congrArg (fun t => t.2.2.1) h0
  have k4 : f.bits = g.bits := congrArg (fun t => t.2.2.2) h0
  have k5 : f.first = g.first := congrArg (fun t => t.2.1) h
  have k6 : f.last = g.last := congrArg (fun t => t.2.2.1) h
  have k7 : f.alone = g.alone := congrArg (fun t => t.2.2.2.1) h
  unfold pre12 Fr.marks
  rw [k1, k2, k3, k4, k5, k6, k7]
theorem seal_len_sh {f g : Fr} (h : shR f = shR g) (hf : f.right = true) (hg : g.right = true) : (sealedL f.raw).length = (sealedL g.raw).length := by
  have h1 : f.data.length = g.data.length := congrArg (fun t => t.2.2.2.2) h
  rw [raw_length f hf, raw_length g hg, h1]
theorem seal_take (f : Fr) : (sealedL f.raw).take 11 = (pre12 f).take 11 := by
  rw [seal_pre, List.take_append_of_le_length (by rw [pre12_len]; omega)]
theorem seal_at (f : Fr) : (sealedL f.raw)[11]? = (pre12 f)[11]? := by
  rw [seal_pre, List.getElem?_append_left (by rw [pre12_len]; omega)]
/-- What is told is a frame. -/
theorem told_ok {p : Pk} {m : Nat} (h : p.Ok m) (now : Int) : ∀ f ∈ toldP now p, f.Ok ∧ f.right = true := by
  obtain ⟨s1, s2, s3, s4⟩ := startK_ok p.ws p.L.nx p.xs h.nx h.ws h.xs
  unfold toldP
  split
  · intro f hf
    rw [List.mem_singleton] at hf
    rw [hf]
    exact alone_ok h.ep h.cn h.cb
  · intro f hf
    obtain ⟨x, hx, rfl⟩ := List.mem_map.1 hf
    have h3 := s3 x (List.mem_filter.1 hx).1
    exact ⟨⟨h.ep, h3.1, h.cn, h.cb⟩, decide_eq_true h3.2.1⟩
end Go.Proofs.YtcgbamkfflcdfaaDoor
/- How an argument that came in reads, in the words of this seat's walks. No condition. -/
namespace Go.Proofs.YtcgbamkfflcdfaaDoor
open Go.ChangeShapes Go.WideShapes Go.ChangeAt Go.RowKit

theorem own : ownKnob Tryd.prog.godebug = none := by kernel_rfl
theorem laidOut : laidOutB Tryd.prog = true := by kernel_rfl
end Go.Proofs.YtcgbamkfflcdfaaDoor
/- How bytes that came in read, in the words of this seat's walks. No condition. -/
namespace Go.Proofs.YtcgbamkfflcdfaaDoor
open Go.ChangeShapes Go.WideShapes Go.ChangeAt Go.RowKit

theorem ints_bs {w : World} {x : Addr} {len : Nat} {zs : List Int} (hz : len ≤ zs.length) (hc : ∀ i, i < zs.length → w.cell? (x.add i) = some (.int .u8 (zs.getD i 0))) (hw : ∀ n ∈ zs, (Lit.int .u8 n).wf = true) :
    ∃ b l, l.length = len ∧ Bs w b (some x) l := by
  refine ⟨x.block, (zs.take len).map fun z => UInt8.ofNat z.toNat, by simp; omega, fun hne => ?_⟩
  have h0 : 0 < zs.length := by
    rcases Nat.eq_zero_or_pos len with h | h
    · subst h; simp at hne
    · omega
  obtain ⟨bb, off, spot⟩ := x
  have hspot : spot = none := by simpa [Addr.add] using World.cell?_spot (hc 0 h0)
  subst hspot
  refine ⟨off, rfl, fun j u hu => ?_⟩
  have hj : j < len := by
    have := (List.getElem?_eq_some_iff.1 hu).1
    simp [bv] at this
    omega
  have hjz : j < zs.length := by omega
  have h1 := hc j hjz
  rw [Addr.add_lit] at h1
  rw [h1]
  have hm : zs.getD j 0 = zs[j] := by simp [List.getD, hjz]
  have hb := bounds_u8 (hw zs[j] (List.getElem_mem hjz))
  have h2 : (bv ((zs.take len).map fun z => UInt8.ofNat z.toNat))[j]? = some (.int .u8 ((UInt8.ofNat zs[j].toNat).toNat : Int)) := by
    simp [bv, hj, hjz]
  rw [h2] at hu
  injection hu with hu
  rw [← hu, hm, u8_ofNat]
  congr 2
  omega

set_option maxRecDepth 100000 in
theorem open_bytes {H : Type} {enc : TypeId × Value → H} {W : World} {base b0 : Nat} {spare : Nat → Bool} {held : Bool} {r : Reach} {v : Value} {d : DataW H} {p : List MemPlace} (hv : Value.okWide Tryd.prog W r base 31 v) (h : DataW.Trod enc Tryd.prog W b0 spare held 31 v d p) :
    ∃ A n c b l, v = .slice A n c ∧ l.length = n ∧ n ≤ maxLen ∧ Bs W b A l := by
  obtain ⟨a, len, cap, rfl⟩ := okWide_slice Tryd.underlying31 hv
  obtain ⟨fuel, hf⟩ := h
  rcases open_ints Tryd.underlying31 Tryd.underlying5 (by kernel_rfl) hf with ⟨hcs, _⟩ | ⟨x, l, c, zs, hcs, _, hl, hm, hz, _, hcell, hwz⟩
  · simp [Value.cells] at hcs
    obtain ⟨rfl, rfl, rfl⟩ := hcs
    exact ⟨none, 0, 0, 0, [], rfl, rfl, by simp [maxLen], Sl.nil_ _ _ _⟩
  · simp [Value.cells] at hcs
    obtain ⟨rfl, rfl, rfl⟩ := hcs
    obtain ⟨b, l', hl', hs⟩ := ints_bs (by rw [hz]; split <;> omega) hcell hwz
    exact ⟨_, _, _, b, l', rfl, hl', by omega, hs⟩
end Go.Proofs.YtcgbamkfflcdfaaDoor
/- How a frame that came in reads, in the words of this seat's walks. No condition. -/
namespace Go.Proofs.YtcgbamkfflcdfaaDoor
open Go.ChangeShapes Go.WideShapes Go.ChangeAt Go.RowKit Go.Deep

set_option maxRecDepth 100000 in
theorem trod_bytesF {H : Type} {enc : TypeId × Value → H} {W : World} {b0 fuel : Nat} {spare : Nat → Bool} {held : Bool} {v : Value} {x : DataW H × List MemPlace} (hf : DataW.trod enc Tryd.prog W b0 spare held fuel 31 [v] = some x) :
    ∃ A n c b l, v = .slice A n c ∧ l.length = n ∧ n ≤ maxLen ∧ Bs W b A l := by
  rcases open_ints Tryd.underlying31 Tryd.underlying5 (by kernel_rfl) hf with ⟨hcs, _⟩ | ⟨x, l, c, zs, hcs, _, hl, hm, hz, _, hcell, hwz⟩
  · injection hcs with hcs
    exact ⟨none, 0, 0, 0, [], hcs, rfl, by simp [maxLen], Sl.nil_ _ _ _⟩
  · injection hcs with hcs
    obtain ⟨b, l', hl', hs⟩ := ints_bs (by rw [hz]; split <;> omega) hcell hwz
    exact ⟨_, _, _, b, l', hcs, hl', by omega, hs⟩
set_option maxRecDepth 100000 in
theorem acks_under : ∃ f0 f1 : Field, Tryd.prog.underlying 45 = some (.struct #[f0, f1]) ∧ f0.type = 42 ∧ f1.type = 43 ∧ f0.offset = 0 ∧ f1.offset = 1 :=
  ⟨_, _, Tryd.underlying45, rfl, rfl, rfl, rfl⟩
set_option maxRecDepth 100000 in
theorem frame_fields : ∃ f0 f1 f2 f3 f4 f5 f6 : Field, Tryd.prog.underlying 47 = some (.struct #[f0, f1, f2, f3, f4, f5, f6]) ∧ (f0.type = 22 ∧ f1.type = 42 ∧ f2.type = 45 ∧ f3.type = 4 ∧ f4.type = 4 ∧ f5.type = 4 ∧ f6.type = 31) ∧ (f0.offset = 0 ∧ f1.offset = 1 ∧ f2.offset = 2 ∧ f3.offset = 4 ∧ f4.offset = 5 ∧ f5.offset = 6 ∧ f6.offset = 7) :=
  ⟨_, _, _, _, _, _, _, Tryd.underlying47, ⟨rfl, rfl, rfl, rfl, rfl, rfl, rfl⟩, ⟨rfl, rfl, rfl, rfl, rfl, rfl, rfl⟩⟩
theorem cells_u16 : Tryd.prog.cellsOf 22 = 1 := by kernel_rfl
theorem cells_seq : Tryd.prog.cellsOf 42 = 1 := by kernel_rfl
theorem cells_u32 : Tryd.prog.cellsOf 43 = 1 := by kernel_rfl
theorem cells_acks : Tryd.prog.cellsOf 45 = 2 := by kernel_rfl
theorem cells_bool : Tryd.prog.cellsOf 4 = 1 := by kernel_rfl
theorem cells_bytes : Tryd.prog.cellsOf 31 = 1 := by kernel_rfl
theorem cells_frame : Tryd.prog.cellsOf 47 = 8 := by kernel_rfl

set_option maxHeartbeats 1000000 in
set_option maxRecDepth 100000 in
theorem trod_frame {H : Type} {enc : TypeId × Value → H} {W : World} {b0 fuel : Nat} {spare : Nat → Bool} {held : Bool} {cs : List Value} {x : DataW H × List MemPlace} (hlen : cs.length = 8) (ht : DataW.trod enc Tryd.prog W b0 spare held fuel 47 cs = some x) :
    ∃ (f : Fr) (A : Option Addr) (c b : Nat), cs = (f.cells A c).toList ∧ f.Ok ∧ f.data.length ≤ maxLen ∧ Bs W b A f.data := by
  obtain ⟨f0, f1, f2, f3, f4, f5, f6, hu, ⟨t0, t1, t2, t3, t4, t5, t6⟩, ⟨o0, o1, o2, o3, o4, o5, o6⟩⟩ := frame_fields
  obtain ⟨ys, n', _, _, _, hyl, hf⟩ := DataW.trod_struct hu ht
  match cs, hlen with
  | [v0, v1, v2, v3, v4, v5, v6, v7], _ =>
    match ys, hyl with
    | [y0, y1, y2, y3, y4, y5, y6], _ =>
      have g0 := hf 0 f0 rfl
      have g1 := hf 1 f1 rfl
      have g2 := hf 2 f2 rfl
      have g3 := hf 3 f3 rfl
      have g4 := hf 4 f4 rfl
      have g5 := hf 5 f5 rfl
      have g6 := hf 6 f6 rfl
      rw [o0, t0, cells_u16] at g0
      rw [o1, t1, cells_seq] at g1
      rw [o2, t2, cells_acks] at g2
      rw [o3, t3, cells_bool] at g3
      rw [o4, t4, cells_bool] at g4
      rw [o5, t5, cells_bool] at g5
      rw [o6, t6, cells_bytes] at g6
      simp only [List.drop_zero, List.drop_succ_cons, List.take_succ_cons, List.take_zero, List.getElem?_cons_zero, List.getElem?_cons_succ] at g0 g1 g2 g3 g4 g5 g6
      obtain ⟨a0, e0, _, w0⟩ := DataW.trod_int Tryd.underlying22 g0
      obtain ⟨a1, e1, _, w1⟩ := DataW.trod_int Tryd.underlying42 g1
      obtain ⟨h0, h1, hu2, u0, u1, p0, p1⟩ := acks_under
      obtain ⟨zs, m', _, _, _, hzl, hg⟩ := DataW.trod_struct hu2 g2
      match zs, hzl with
      | [z0, z1], _ =>
        have k0 := hg 0 h0 rfl
        have k1 := hg 1 h1 rfl
        rw [p0, u0, cells_seq] at k0
        rw [p1, u1, cells_u32] at k1
        simp only [List.drop_zero, List.drop_succ_cons, List.take_succ_cons, List.take_zero, List.getElem?_cons_zero, List.getElem?_cons_succ] at k0 k1
        obtain ⟨a2, e2, _, w2⟩ := DataW.trod_int Tryd.underlying42 k0
        obtain ⟨a3, e3, _, w3⟩ := DataW.trod_int Tryd.underlying43 k1
        obtain ⟨b4, e4, _⟩ := DataW.trod_bool Tryd.underlying4 g3
        obtain ⟨b5, e5, _⟩ := DataW.trod_bool Tryd.underlying4 g4
        obtain ⟨b6, e6, _⟩ := DataW.trod_bool Tryd.underlying4 g5
        obtain ⟨A, n, c, b, l, e7, hl, hm, hs⟩ := trod_bytesF g6
        injection e0 with e0
        injection e1 with e1
        injection e2 with e2
        injection e3 with e3
        injection e4 with e4
        injection e5 with e5
        injection e6 with e6
        have c0 := bounds_u16 w0
        have c1 := bounds_u16 w1
        have c2 := bounds_u16 w2
        have c3 := bounds_u32 w3
        refine ⟨⟨a0.toNat, a1.toNat, a2.toNat, a3.toNat, b4, b5, b6, l⟩, A, c, b, ?_, ⟨by simp only; omega, by simp only; omega, by simp only; omega, by simp only; omega⟩, by simp only; omega, hs⟩
        simp only
        rw [e0, e1, e2, e3, e4, e5, e6, e7, hl, Int.toNat_of_nonneg c0.1, Int.toNat_of_nonneg c1.1, Int.toNat_of_nonneg c2.1, Int.toNat_of_nonneg c3.1]

set_option maxRecDepth 100000 in
theorem open_frame {H : Type} {enc : TypeId × Value → H} {W : World} {base b0 : Nat} {spare : Nat → Bool} {held : Bool} {r : Reach} {v : Value} {d : DataW H} {p : List MemPlace} (hv : Value.okWide Tryd.prog W r base 47 v) (h : DataW.Trod enc Tryd.prog W b0 spare held 47 v d p) :
    ∃ (f : Fr) (A : Option Addr) (c b : Nat), v = .agg (f.cells A c) ∧ f.Ok ∧ f.data.length ≤ maxLen ∧ Bs W b A f.data := by
  obtain ⟨f0, f1, f2, f3, f4, f5, f6, hu, _, _⟩ := frame_fields
  obtain ⟨cs, rfl, hsz⟩ := okWide_struct hu hv
  obtain ⟨fuel, hf⟩ := h
  obtain ⟨f, A, c, b, hy, ho, hl, hs⟩ := trod_frame (by simpa [Value.cells] using hsz.trans cells_frame) hf
  refine ⟨f, A, c, b, ?_, ho, hl, hs⟩
  congr 1
  apply Array.ext'
  simpa [Value.cells] using hy
end Go.Proofs.YtcgbamkfflcdfaaDoor
/- How acts that came in read, in the words of this seat's walks. No condition. -/
namespace Go.Proofs.YtcgbamkfflcdfaaDoor
open Go.ChangeShapes Go.WideShapes Go.ChangeAt Go.RowKit Go.Deep

/-- An act as it lies. -/
structure AV where
  d : Nat
  n : Nat
  b : Nat
  t : Nat
  rA : Option Addr
  rn : Nat
  rc : Nat
  f : Fr
  A : Option Addr
  c : Nat
  bb : Nat
abbrev AV.cells (x : AV) : List Value := [.int .u8 (x.d : Int), .int .u16 (x.n : Int), .int .u8 (x.b : Int), .int .u8 (x.t : Int), .slice x.rA x.rn x.rc, .int .u16 (x.f.epoch : Int), .int .u16 (x.f.seq : Int), .int .u16 (x.f.next : Int), .int .u32 (x.f.bits : Int), .bool x.f.first, .bool x.f.last, .bool x.f.alone, .slice x.A x.f.data.length x.c]
structure AV.In (w : World) (x : AV) : Prop where
  d : x.d ≤ 255
  n : x.n ≤ 65535
  b : x.b ≤ 255
  t : x.t ≤ 255
  ok : x.f.Ok
  dl : x.f.data.length ≤ maxLen
  hs : Bs w x.bb x.A x.f.data
theorem AV.In.ext {w w' : World} {x : AV} (h : AV.In w x) (hm : Below w.heap.size w w') : AV.In w' x := ⟨h.d, h.n, h.b, h.t, h.ok, h.dl, Sl.ext h.hs hm⟩
theorem cells_u8 : Tryd.prog.cellsOf 5 = 1 := by kernel_rfl
theorem act_cells : Tryd.prog.cellsOf 49 = 13 := by kernel_rfl
set_option maxRecDepth 100000 in
theorem act_fields : ∃ f0 f1 f2 f3 f4 f5 : Field, Tryd.prog.underlying 49 = some (.struct #[f0, f1, f2, f3, f4, f5]) ∧ (f0.type = 5 ∧ f1.type = 22 ∧ f2.type = 5 ∧ f3.type = 5 ∧ f4.type = 31 ∧ f5.type = 47) ∧ (f0.offset = 0 ∧ f1.offset = 1 ∧ f2.offset = 2 ∧ f3.offset = 3 ∧ f4.offset = 4 ∧ f5.offset = 5) :=
  ⟨_, _, _, _, _, _, Tryd.underlying49, ⟨rfl, rfl, rfl, rfl, rfl, rfl⟩, ⟨rfl, rfl, rfl, rfl, rfl, rfl⟩⟩
set_option maxHeartbeats 1000000 in
set_option maxRecDepth 100000 in
theorem trod_act {H : Type} {enc : TypeId × Value → H} {W : World} {b0 fuel : Nat} {spare : Nat → Bool} {held : Bool} {cs : List Value} {x : DataW H × List MemPlace} (hlen : cs.length = 13) (ht : DataW.trod enc Tryd.prog W b0 spare held fuel 49 cs = some x) :
    ∃ y : AV, cs = y.cells ∧ AV.In W y := by
  obtain ⟨f0, f1, f2, f3, f4, f5, hu, ⟨t0, t1, t2, t3, t4, t5⟩, ⟨o0, o1, o2, o3, o4, o5⟩⟩ := act_fields
  obtain ⟨ys, n', _, _, _, hyl, hf⟩ := DataW.trod_struct hu ht
  match cs, hlen with
  | [v0, v1, v2, v3, v4, v5, v6, v7, v8, v9, v10, v11, v12], _ =>
    match ys, hyl with
    | [y0, y1, y2, y3, y4, y5], _ =>
      have g0 := hf 0 f0 rfl
      have g1 := hf 1 f1 rfl
      have g2 := hf 2 f2 rfl
      have g3 := hf 3 f3 rfl
      have g4 := hf 4 f4 rfl
      have g5 := hf 5 f5 rfl
      rw [o0, t0, cells_u8] at g0
      rw [o1, t1, cells_u16] at g1
      rw [o2, t2, cells_u8] at g2
      rw [o3, t3, cells_u8] at g3
      rw [o4, t4, cells_bytes] at g4
      rw [o5, t5, cells_frame] at g5
      simp only [List.drop_zero, List.drop_succ_cons, List.take_succ_cons, List.take_zero, List.getElem?_cons_zero, List.getElem?_cons_succ] at g0 g1 g2 g3 g4 g5
      obtain ⟨a0, e0, _, w0⟩ := DataW.trod_int Tryd.underlying5 g0
      obtain ⟨a1, e1, _, w1⟩ := DataW.trod_int Tryd.underlying22 g1
      obtain ⟨a2, e2, _, w2⟩ := DataW.trod_int Tryd.underlying5 g2
      obtain ⟨a3, e3, _, w3⟩ := DataW.trod_int Tryd.underlying5 g3
      obtain ⟨rA, rn, rc, rb, rl, e4, -, -, -⟩ := trod_bytesF g4
      obtain ⟨f, A, c, b, e5, ho, hl, hs⟩ := trod_frame (by rfl) g5
      injection e0 with e0
      injection e1 with e1
      injection e2 with e2
      injection e3 with e3
      have c0 := bounds_u8 w0
      have c1 := bounds_u16 w1
      have c2 := bounds_u8 w2
      have c3 := bounds_u8 w3
      refine ⟨⟨a0.toNat, a1.toNat, a2.toNat, a3.toNat, rA, rn, rc, f, A, c, b⟩, ?_, ⟨by simp only; omega, by simp only; omega, by simp only; omega, by simp only; omega, ho, hl, hs⟩⟩
      have e5' : [v5, v6, v7, v8, v9, v10, v11, v12] = (f.cells A c).toList := e5
      simp only at e5'
      injection e5' with k0 e5'
      injection e5' with k1 e5'
      injection e5' with k2 e5'
      injection e5' with k3 e5'
      injection e5' with k4 e5'
      injection e5' with k5 e5'
      injection e5' with k6 e5'
      injection e5' with k7 _
      simp only [AV.cells]
      rw [e0, e1, e2, e3, e4, k0, k1, k2, k3, k4, k5, k6, k7, Int.toNat_of_nonneg c0.1, Int.toNat_of_nonneg c1.1, Int.toNat_of_nonneg c2.1, Int.toNat_of_nonneg c3.1]
def avv (xs : List AV) : List Value := xs.flatMap AV.cells
theorem avv_cons (x : AV) (xs : List AV) : avv (x :: xs) = x.cells ++ avv xs := rfl
@[simp] theorem avv_length (xs : List AV) : (avv xs).length = xs.length * 13 := by
  induction xs with
  | nil => rfl
  | cons x l ih => rw [avv_cons, List.length_append, ih, List.length_cons]; simp; omega
theorem avv_at : ∀ (xs : List AV) (k : Nat) (hk : k < xs.length) (j : Nat), j < 13 → (avv xs)[k * 13 + j]? = xs[k].cells[j]?
  | x :: l, 0, _, j, hj => by
    rw [avv_cons, List.getElem?_append_left (by simp; omega)]
    simp
  | x :: l, k + 1, hk, j, hj => by
    rw [avv_cons, List.getElem?_append_right (by simp; omega), show (k + 1) * 13 + j - x.cells.length = k * 13 + j by simp; omega, avv_at l k (by simpa using hk) j hj]
    simp
theorem list_of {α : Type} {n : Nat} {P : Nat → α → Prop} (h : ∀ i, i < n → ∃ x, P i x) : ∃ l : List α, l.length = n ∧ ∀ i (hi : i < l.length), P i l[i] := by
  induction n with
  | zero => exact ⟨[], rfl, fun i hi => by simp at hi⟩
  | succ n ih =>
    obtain ⟨l, hl, hp⟩ := ih (fun i hi => h i (by omega))
    obtain ⟨x, hx⟩ := h n (by omega)
    refine ⟨l ++ [x], by simp [hl], fun i hi => ?_⟩
    by_cases hin : i < l.length
    · rw [List.getElem_append_left hin]; exact hp i hin
    · have : i = n := by simp at hi; omega
      subst this
      rw [List.getElem_append_right (by omega)]
      simpa using hx

set_option maxRecDepth 100000 in
theorem open_acts {H : Type} {enc : TypeId × Value → H} {W : World} {base b0 : Nat} {spare : Nat → Bool} {held : Bool} {r : Reach} {v : Value} {d : DataW H} {p : List MemPlace} (hv : Value.okWide Tryd.prog W r base 41 v) (h : DataW.Trod enc Tryd.prog W b0 spare held 41 v d p) :
    ∃ A n c b xs, v = .slice A n c ∧ xs.length = n ∧ n ≤ maxLen ∧ Sl W b A (avv xs) ∧ ∀ x ∈ xs, AV.In W x := by
  obtain ⟨a, len, cap, rfl⟩ := okWide_slice Tryd.underlying41 hv
  obtain ⟨fuel, hf⟩ := h
  rcases open_slice Tryd.underlying41 hf with ⟨hcs, _⟩ | ⟨x, l, c, m, n, D, Pl, hcs, _, hl, hm, hmm, _, hel⟩
  · simp [Value.cells] at hcs
    obtain ⟨rfl, rfl, rfl⟩ := hcs
    exact ⟨none, 0, 0, 0, [], rfl, rfl, by simp [maxLen], Sl.nil_ _ _ _, by simp⟩
  · simp [Value.cells] at hcs
    obtain ⟨rfl, rfl, rfl⟩ := hcs
    have hlm : len ≤ m := by rw [hmm]; split <;> omega
    rw [act_cells] at hel
    obtain ⟨xs, hxl, hxs⟩ := list_of (n := len) (P := fun i (y : AV) => AV.In W y ∧ ∀ j, j < 13 → W.cell? (x.add (i * 13 + j)) = y.cells[j]?) (fun i hi => by
      obtain ⟨cs', hc, ht⟩ := hel i (by omega)
      obtain ⟨_, hcl, hat⟩ := World.cells?_some hc
      obtain ⟨y, hy, hyin⟩ := trod_act hcl ht
      refine ⟨y, hyin, fun j hj => ?_⟩
      rw [← Go.Deep.add_add, hat j hj, hy])
    by_cases h0 : len = 0
    · have hx0 : xs = [] := List.eq_nil_of_length_eq_zero (by omega)
      subst hx0
      exact ⟨_, _, _, 0, [], rfl, hxl, by omega, Sl.nil_ _ _ _, by simp⟩
    · obtain ⟨bb, off, spot⟩ := x
      have hc0 := (hxs 0 (by omega)).2 0 (by omega)
      have hspot : spot = none := by
        have : W.cell? ((⟨bb, off, spot⟩ : Addr).add (0 * 13 + 0)) = some (.int .u8 (xs[0].d : Int)) := hc0
        simpa [Addr.add] using World.cell?_spot this
      subst hspot
      refine ⟨_, _, _, bb, xs, rfl, hxl, by omega, fun _ => ⟨off, rfl, fun j u hu => ?_⟩, fun y hy => ?_⟩
      · have hj := (List.getElem?_eq_some_iff.1 hu).1
        rw [avv_length] at hj
        have h1 := (hxs (j / 13) (by omega)).2 (j % 13) (by omega)
        have h2 := avv_at xs (j / 13) (by omega) (j % 13) (by omega)
        have e : j / 13 * 13 + j % 13 = j := by omega
        rw [e] at h1 h2
        rw [Addr.add_lit] at h1
        rw [h1, ← h2]
        exact hu
      · obtain ⟨i, hi, rfl⟩ := List.getElem_of_mem hy
        exact (hxs i hi).1
end Go.Proofs.YtcgbamkfflcdfaaDoor
/- The reference's Same of lists of lists of bytes. Conditions: those said. -/
namespace Go.Proofs.YtcgbamkfflcdfaaDoor
open Go.RowKit
set_option linter.unusedVariables false

theorem takeL_succ (a b : List (List UInt8)) (k : Nat) (ha : k < a.length) (hb : k < b.length) : (a.take (k + 1) = b.take (k + 1)) ↔ (a.take k = b.take k ∧ a[k] = b[k]) := by
  rw [List.take_succ_eq_append_getElem ha, List.take_succ_eq_append_getElem hb]
  constructor
  · intro h
    have := List.append_inj h (by simp; omega)
    exact ⟨this.1, by simpa using this.2⟩
  · rintro ⟨h1, h2⟩
    rw [h1, h2]
set_option maxHeartbeats 4000000 in
set_option maxRecDepth 20000 in
theorem SameL_calls (A B : Option Addr) (us vs : List Value) (a b : List (List UInt8)) (n m ca cb ba bb : Nat) (w : World) (ha : Sl w ba A us) (hb : Sl w bb B vs) (hau : Bss w us a) (hbv : Bss w vs b) (hn : a.length = n) (hm : b.length = m) (h1 : n ≤ 1000000) (h2 : ∀ l ∈ a, l.length ≤ maxLen) (h3 : ∀ l ∈ b, l.length ≤ maxLen) :
    Calls Tryd.prog 19 #[.slice A n ca, .slice B m cb] w fun e w' => e = .returned (.bool (decide (a = b))) ∧ ∃ k, w' = w.drewN k := by
  by_cases hlen : n = m
  · subst hlen
    have hne : ((n : Int) != (n : Int)) = false := by simp
    have HN := Lib.hid hn
    have HM := Lib.hid hm
    clear hn hm
    go_enter Tryd.func19, Tryd.ntmps19
    go_wp2
    go_loopw [13] (fun i wr => ∃ k : Nat, k ≤ n ∧ i = .int .i64 k ∧ Hid (a.take k = b.take k) ∧ Hid (∃ d, wr = w.drewN d)) (fun i _ => n - (intOf i).toNat)
    case atStart => exact ⟨0, Nat.zero_le _, rfl, Lib.hid rfl, Lib.hid ⟨0, rfl⟩⟩
    case round =>
      obtain ⟨k, hk, rfl, hpre, hd⟩ := hrel
      have haw : Sl wr ba A us := by obtain ⟨d, h⟩ := hd.out; rw [h]; exact ha.drewN d
      have hbw : Sl wr bb B vs := by obtain ⟨d, h⟩ := hd.out; rw [h]; exact hb.drewN d
      have hauw : Bss wr us a := by obtain ⟨d, h⟩ := hd.out; rw [h]; exact hau
      have hbvw : Bss wr vs b := by obtain ⟨d, h⟩ := hd.out; rw [h]; exact hbv
      by_cases hlt : k < n
      · have ka : k < a.length := by rw [HN.out]; exact hlt
        have kb : k < b.length := by rw [HM.out]; exact hlt
        obtain ⟨A1, c1, b1, hu1, hs1⟩ := hauw.2 k a[k] (List.getElem?_eq_getElem ka)
        obtain ⟨A2, c2, b2, hv1, hs2⟩ := hbvw.2 k b[k] (List.getElem?_eq_getElem kb)
        obtain ⟨oa, rfl, hca⟩  := haw (by rintro rfl; simp at hu1)
        obtain ⟨ob, rfl, hcb⟩ := hbw (by rintro rfl; simp at hv1)
        have ca := hca k _ hu1
        have cb := hcb k _ hv1
        have ts := Lib.hid (takeL_succ a b k ka kb)
        have l1 := h2 a[k] (List.getElem_mem _)
        have l2 := h3 b[k] (List.getElem_mem _)
        have hSm := fun j => Same_calls A1 A2 a[k] b[k] a[k].length b[k].length c1 c2 b1 b2 (wr.drewN j) (hs1.drewN j) (hs2.drewN j) rfl rfl l1 l2
        obtain ⟨x, hx⟩ : ∃ x, x = a[k] := ⟨_, rfl⟩
        obtain ⟨y, hy⟩ : ∃ y, y = b[k] := ⟨_, rfl⟩
        rw [← hx] at ca hs1 hSm ts
        rw [← hy] at cb hs2 hSm ts
        have HX := Lib.hid hx
        have HY := Lib.hid hy
        obtain ⟨p, hp⟩ : ∃ p, p = decide (x = y) := ⟨_, rfl⟩
        rw [← hp] at hSm
        have HP := Lib.hid hp
        clear hca hcb hx hy hp l1 l2 hs1 hs2 hu1 hv1
        clear haw hbw hauw hbvw
        cases p
        · go_wp2_with fail
          go_quiet ((go_at_call 21; exact Calls.quiet_of (hSm _)))
          go_wp2_with fail
          go_ret
          have hab : decide (a = b) = false := by
            rw [decide_eq_false_iff_not]
            intro h
            have h5 : a.take (k + 1) = b.take (k + 1) := by rw [h]
            have h6 := (ts.out.1 h5).2
            exact absurd h6 (by simpa using HP.out.symm)
          obtain ⟨d, hdd⟩ := hd.out
          exact ⟨by rw [hab]; rfl, _, by rw [hdd]; exact World.drewN_drewN _ _ _⟩
        · go_wp2_with fail
          go_quiet ((go_at_call 21; exact Calls.quiet_of (hSm _)))
          go_wp2_with fail
          go_roundw
          case rel => exact ⟨k + 1, by omega, by go_num, Lib.hid (ts.out.2 ⟨hpre.out, by simpa using HP.out.symm⟩), Lib.hid (by obtain ⟨d, hdd⟩ := hd.out; exact ⟨_, by rw [hdd]; exact World.drewN_drewN _ _ _⟩)⟩
          case measure => simp [intOf]; omega
      · obtain rfl : k = n := by omega
        have hab : decide (a = b) = true := by
          rw [decide_eq_true_eq]
          have h5 := hpre.out
          rwa [List.take_of_length_le (by rw [HN.out]; exact Nat.le_refl _), List.take_of_length_le (by rw [HM.out]; exact Nat.le_refl _)] at h5
        have HAB := Lib.hid hab
        clear hab haw hbw hauw hbvw
        go_wp2_with fail
        go_ret
        exact ⟨by rw [HAB.out]; rfl, hd.out⟩
  · have hne : ((n : Int) != (m : Int)) = true := by simp; omega
    have hab : decide (a = b) = false := by
      rw [decide_eq_false_iff_not]
      rintro rfl
      exact hlen (hn.symm.trans hm)
    have HAB := Lib.hid hab
    clear hab hn hm ha hb hau hbv
    go_enter Tryd.func19, Tryd.ntmps19
    go_wp2_with fail
    go_ret
    exact ⟨by rw [HAB.out]; rfl, 0, rfl⟩
end Go.Proofs.YtcgbamkfflcdfaaDoor
/- The library's table, as the row lays it: what the walks want of it, and a world in which it lies. No condition. -/
namespace Go.Proofs.YtcgbamkfflcdfaaDoor
open Go.RowKit

def tabZ : List Int := Lib.deBruijn32tab.map Int.ofNat
theorem tab_of_laid {W : World} (h : laidMet Tryd.prog [("math/bits.deBruijn32tab", Rows.laid_math_bits_deBruijn32tab)] W) : Tab W := by
  have hT : Lib.TabIs Tryd.prog W "math/bits.deBruijn32tab" .u8 tabZ :=
    Lib.tabIs_of_head (g := 0) (t := 171) (e := 5) (n := 32) (by kernel_rfl) (by kernel_rfl) Tryd.underlying171 Tryd.underlying5 (by kernel_rfl) (by kernel_rfl) h
  intro j hj
  have h1 := hT.cell (g := 0) (by kernel_rfl) j (by simpa [tabZ] using hj)
  rw [h1]
  simp [tabZ, List.getD, hj]
/-- A world in which the table lies as it is laid. -/
noncomputable def laidWorld (os : Os) : World :=
  { World.holding Tryd.prog os ⟨#[], #[], []⟩ with heap := (World.holding Tryd.prog os ⟨#[], #[], []⟩).heap.modify 0 fun
      | .cells _ t frozen => .cells (tabZ.map fun z => Value.int .u8 z).toArray t frozen
      | o => o }
end Go.Proofs.YtcgbamkfflcdfaaDoor
