/- The reference's Put: as the plain basket says (left out). Conditions: what it holds is no more than a message may be, each piece is full. -/
import Derived.Test.YtgkflgnlodhelaaClipRK
namespace Go.Proofs.Ytgkflgnlodhelaa
open Go.RowKit
set_option linter.unusedVariables false

set_option maxHeartbeats 16000000 in
set_option maxRecDepth 20000 in
theorem RPut_L (B h : Nat) (v : Value) (xs : List PV) (k : Bk) (x : Pc) (A : Option Addr) (c b : Nat) (w : World) (q : RFull w B h v xs k) (hk : k.held.length ≤ 1024) (hs : Bs w b A x.data) (hx : x.data.length ≤ maxLen) (hB : B ≤ w.heap.size) (hbh : b ≠ h) (hbv : v.ownBlock ≠ some b) (hbl : b < w.heap.size) (hc1 : k.leaving = true) (hc2 : x.first = false) :
    Calls Try.prog 21 #[.pointer (some ⟨h, 0, none⟩), .agg #[.bool x.first, .bool x.last, .slice A x.data.length c]] w fun e w' => ∃ v2 xs2 vo, e = .returned (.tuple #[vo, .bool (putB k x).2.2.1, .int .i64 (putB k x).2.2.2]) ∧ RFull w' B h v2 xs2 (putB k x).1 ∧ Row w' w.heap.size vo (putB k x).2.1 ∧ Mod (fun i => i = h ∨ v.ownBlock = some i) w w' ∧ (∀ z ∈ xs2, z ∈ xs ∨ z.b = b) := by
  obtain ⟨Av, cv, bv', hv, -, -, -, -, -, -⟩ := ownsP_sl q.rin.row
  have hdl := dataOf_len xs q.full
  have hpos : decide (0 < k.held.length) = decide (0 < xs.length) := by rw [← q.held, hdl, Bool.eq_iff_iff]; simp
  have hn16 : xs.length ≤ 16 := by rw [q.held] at hdl; omega
  obtain ⟨s, hss⟩ : ∃ s, s = x.data.length := ⟨_, rfl⟩
  obtain ⟨n, hnn⟩ : ∃ n, n = xs.length := ⟨_, rfl⟩
  obtain ⟨fi, hfi⟩ : ∃ fi, fi = x.first := ⟨_, rfl⟩
  obtain ⟨la, hla⟩ : ∃ la, la = x.last := ⟨_, rfl⟩
  obtain ⟨sk, hsk⟩ : ∃ sk, sk = k.leaving := ⟨_, rfl⟩
  have hR : refuseN k x = if fi = decide (0 < n) then 2 else if 64 < s then 2 else if la = false ∧ s < 64 then 2 else if 1024 < k.held.length + s then 4 else 0 := by
    unfold refuseN; rw [hpos, hss, hfi, hla, hnn]
  rw [← hss] at hx
  rw [← hss, ← hfi, ← hla]
  have hb := below_alloc1 w (.cells #[.bool fi, .bool la, .slice A s c] 39)
  have qp := heap_alloc_new w (.cells #[.bool fi, .bool la, .slice A s c] 39)
  have q1 := q.ext hb
  have hsx := Sl.ext hs hb
  have d0 := (cell_of_row _ _ 0 _ _ _ qp).trans (show _ = some (.bool fi) from rfl)
  have d1 := (cell_of_row _ _ 1 _ _ _ qp).trans (show _ = some (.bool la) from rfl)
  have d2 := (cell_of_row _ _ 2 _ _ _ qp).trans (show _ = some (.slice A s c) from rfl)
  have k0 := q1.rin.box.c0
  have k1 := q1.rin.box.c1
  have f0 := q1.rin.box.fz 0
  have f1 := q1.rin.box.fz 1
  have hhl := q.rin.box.lt
  have hhne : ¬ h = w.heap.size := by omega
  have hhne2 : ¬ w.heap.size = h := by omega
  rw [hv, ← hnn] at k0
  rw [← hsk] at k1
  unfold maxLen at hx
  have Q1 := Lib.hid q1
  have QP := Lib.hid qp
  have HS := Lib.hid hsx
  have HV := Lib.hid hv
  have HN := Lib.hid hnn
  have HSS := Lib.hid hss
  have HFI := Lib.hid hfi
  have HLA := Lib.hid hla
  have HLS := Lib.hid hla
  have HSK := Lib.hid hsk
  have HB := Lib.hid hB
  have HVH : Hid (∀ i, v.ownBlock = some i → i ≠ h ∧ i < w.heap.size) := Lib.hid (fun i hi => ⟨fun e => box_apart q.rin.box q.rin.row (by rw [hi, e]), (World.ownsRow.lt q.rin.row i hi).2⟩)
  have HR := Lib.hid hR
  have HAW := Lib.hid (And.intro hbh (And.intro hbv (And.intro hbl hk)))
  have HHL := Lib.hid hhl
  have hn16' : n ≤ 16 := by rw [hnn]; exact hn16
  clear q1 qp hsx hv hnn hss hfi hla hsk hB hR hbh hbv hbl hk q hs hhl hdl hpos hn16
  obtain rfl : sk = true := HSK.out.trans hc1
  obtain rfl : fi = false := HFI.out.trans hc2
  clear hc1 hc2
  have e1 := putB_left (k := k) (x := x) ⟨by rw [← HSK.out], by rw [← HFI.out]⟩
  rw [e1]
  go_enter Try.func21, Try.ntmps21
  go_wp2_with fail
  go_ret3
  exact ⟨v, xs, _, rfl, Q1.out, Row.nil_ _ _, (Mod.of_below hb).mono (fun i hi h => by omega), fun z hz => .inl hz⟩
end Go.Proofs.Ytgkflgnlodhelaa
