/- Parts of one proof, in their order. -/
import Derived.Test.YtcgbamkfflcdfaaDoorZLkBasf01
import Derived.BigQuiet
import Derived.Deep.RegionLaw
import Derived.Maps.OwnSet
import Derived.WalkArith
import Derived.Lib.TrailingZeros
import Derived.Test.YtcgbamkfflcdfaaDoorRows
import Derived.Deep.DeepCutAuto
import Derived.Deep.LoopGhost
/- A link's basket: its Held, Open, Clear, refuses, Put. Conditions: what it holds is no more than a message may be. -/
namespace Go.Proofs.YtcgbamkfflcdfaaDoor
open Go.RowKit

/-- A basket, plainly. -/
structure Bk where
  held : List UInt8
  leaving : Bool
/-- Why a piece may not be added. -/
def refuseN (k : Bk) (x : Pc) : Nat :=
  if x.first = decide (0 < k.held.length) then 2 else if 64 < x.data.length then 2 else if x.last = false ∧ x.data.length < 64 then 2 else if 1024 < k.held.length + x.data.length then 4 else 0
/-- A piece is put: the basket behind it, the message, whether it is whole, the error. -/
def putB (k : Bk) (x : Pc) : Bk × List UInt8 × Bool × Nat :=
  if k.leaving = true ∧ x.first = false then (k, [], false, 0)
  else if refuseN k x ≠ 0 then (⟨[], true⟩, [], false, refuseN k x)
  else if x.last = true then (⟨[], false⟩, k.held ++ x.data, true, 0)
  else (⟨k.held ++ x.data, false⟩, [], false, 0)

/-- A link's other cells. -/
structure BP where
  L : Lk
  vw : Value
  vf : Value
  bm : Nat
/-- Block g is a link, whose basket's two cells are these. -/
def BoxK (P : BP) (w : World) (g : Nat) (v : Value) (lv : Bool) : Prop := LkB w g P.bm { P.L with lv := lv } P.vw P.vf v
namespace BoxK
variable {P : BP} {w w' : World} {g : Nat} {v : Value} {lv : Bool}
theorem lt (h : BoxK P w g v lv) : g < w.heap.size := LkB.lt h
theorem c0 (h : BoxK P w g v lv) : w.cell? ⟨g, 7, none⟩ = some v := LkB.c7 h
theorem c1 (h : BoxK P w g v lv) : w.cell? ⟨g, 8, none⟩ = some (.bool lv) := LkB.c8 h
theorem fz (h : BoxK P w g v lv) (j : Nat) : w.frozen? ⟨g, j, none⟩ = false := LkB.fz h j
theorem mod {S : Nat → Prop} (h : BoxK P w g v lv) (hm : Mod S w w') (hs : ¬ S g) : BoxK P w' g v lv := LkB.mod h hm hs
theorem ext (h : BoxK P w g v lv) (hm : Below w.heap.size w w') : BoxK P w' g v lv := LkB.ext h hm
theorem set0 (h : BoxK P w g v lv) (u : Value) : BoxK P (w.setCell ⟨g, 7, none⟩ u) g u lv := heap_setCell_same w g 7 _ _ u h
theorem set1 (h : BoxK P w g v lv) (b : Bool) : BoxK P (w.setCell ⟨g, 8, none⟩ (.bool b)) g v b := heap_setCell_same w g 8 _ _ (.bool b) h
theorem drew (h : BoxK P w g v lv) : BoxK P w.drew g v lv := h
/-- What it holds lies elsewhere. -/
theorem apart {B n : Nat} {xs : List Value} {r : Value} (h : BoxK P w g v lv) (hr : w.ownsRow B 5 1 r n xs) : r.ownBlock ≠ some g := row_apart hr h (by decide)
end BoxK

/-- A basket in memory: its cells in block g, what it holds in a row of its own (not below B). -/
structure KIn (P : BP) (w : World) (B g : Nat) (v : Value) (k : Bk) : Prop where
  box : BoxK P w g v k.leaving
  row : Row w B v k.held
  none_ : k.held = [] → v = .slice none 0 0
namespace KIn
variable {P : BP} {w w' : World} {B B' g : Nat} {v : Value} {k : Bk}
theorem ext (h : KIn P w B g v k) (hm : Below w.heap.size w w') : KIn P w' B g v k := ⟨h.box.ext hm, h.row.ext hm, h.none_⟩
theorem low (h : KIn P w B g v k) (hB : B' ≤ B) : KIn P w B' g v k := ⟨h.box, h.row.low hB, h.none_⟩
theorem empty (h : KIn P w B g v k) (he : k.held = []) : KIn P w B' g v k := ⟨h.box, by rw [h.none_ he, he]; exact Row.nil_ _ _, h.none_⟩
end KIn

set_option maxHeartbeats 400000 in
theorem Held_calls (P : BP) (B g : Nat) (v : Value) (k : Bk) (w : World) (h : KIn P w B g v k) :
    Calls Tryd.prog 93 #[.pointer (some ⟨g, 7, none⟩)] w fun e w' => e = .returned (.int .i64 (k.held.length : Int)) ∧ w' = w := by
  obtain ⟨A, c, b, rfl, -, -, -, -, -, -⟩ := h.row.sl
  have c0 := h.box.c0
  clear h
  go_enter Tryd.func93, Tryd.ntmps93
  go_wp2_with fail
  go_ret
  exact ⟨rfl, rfl⟩

set_option maxHeartbeats 400000 in
theorem Open_calls (P : BP) (B g : Nat) (v : Value) (k : Bk) (w : World) (h : KIn P w B g v k) :
    Calls Tryd.prog 92 #[.pointer (some ⟨g, 7, none⟩)] w fun e w' => e = .returned (.bool (decide (0 < k.held.length))) ∧ w' = w := by
  have hH := Held_calls P B g v k w h
  obtain ⟨n, hn⟩ : ∃ n, n = k.held.length := ⟨_, rfl⟩
  rw [← hn] at hH ⊢
  clear hn h
  go_enter Tryd.func92, Tryd.ntmps92
  go_wp2_with fail
  refine hH.mono ?_
  rintro e w1 ⟨rfl, rfl⟩
  go_wp2_with fail
  go_ret
  exact ⟨rfl, rfl⟩

set_option maxHeartbeats 400000 in
theorem Clear_calls (P : BP) (B g : Nat) (v : Value) (lv : Bool) (w : World) (h : BoxK P w g v lv) :
    Calls Tryd.prog 89 #[.pointer (some ⟨g, 7, none⟩)] w fun e w' => e = .returned (.tuple #[]) ∧ KIn P w' B g (.slice none 0 0) ⟨[], false⟩ ∧ Mod (fun i => i = g) w w' := by
  have c0 := h.c0
  have c1 := h.c1
  have f0 := h.fz 7
  have f1 := h.fz 8
  have hb := Lib.hid h
  clear h
  go_enter Tryd.func89, Tryd.ntmps89
  go_wp2_with fail
  first | go_end0 | refine bodyPost_ret (results_none rfl _ _ _) rfl ?_
  exact ⟨rfl, ⟨(hb.out.set0 _).set1 _, Row.nil_ _ _, fun _ => rfl⟩, (Mod.setCell w ⟨g, 7, none⟩ _).trans (Mod.setCell _ ⟨g, 8, none⟩ _) (fun i _ h => h) (fun i _ h => h)⟩

theorem cell_alloc {w : World} {p : Addr} {u : Value} {o : Obj} (h : w.cell? p = some u) : (w.alloc o).cell? p = some u := (World.cell?_alloc_lt w o p (World.block_lt_of_cell? w p h)).trans h
set_option maxHeartbeats 400000 in
theorem refuses_calls (P : BP) (B g : Nat) (v : Value) (k : Bk) (x : Pc) (A : Option Addr) (c : Nat) (w : World) (h : KIn P w B g v k) (hk : k.held.length ≤ 1024) (hx : x.data.length ≤ maxLen) :
    Calls Tryd.prog 88 #[.pointer (some ⟨g, 7, none⟩), .agg #[.bool x.first, .bool x.last, .slice A x.data.length c]] w fun e w' => e = .returned (.int .i64 (refuseN k x : Nat)) ∧ Below w.heap.size w w' := by
  unfold maxLen at hx
  obtain ⟨n, hn⟩ : ∃ n, n = x.data.length := ⟨_, rfl⟩
  obtain ⟨fi, hfi⟩ : ∃ fi, fi = x.first := ⟨_, rfl⟩
  obtain ⟨la, hla⟩ : ∃ la, la = x.last := ⟨_, rfl⟩
  obtain ⟨m, hm⟩ : ∃ m, m = k.held.length := ⟨_, rfl⟩
  have hR : refuseN k x = if fi = decide (0 < m) then 2 else if 64 < n then 2 else if la = false ∧ n < 64 then 2 else if 1024 < m + n then 4 else 0 := by
    unfold refuseN; rw [hn, hfi, hla, hm]
  rw [← hn] at hx ⊢
  rw [← hfi, ← hla]
  rw [← hm] at hk
  have hb := below_alloc1 w (.cells #[.bool fi, .bool la, .slice A n c] 96)
  have hO := fun W => Open_calls P B g v k W
  rw [← hm] at hO
  have q := heap_alloc_new w (.cells #[.bool fi, .bool la, .slice A n c] 96)
  have d0 := (cell_of_row _ _ 0 _ _ _ q).trans (show _ = some (.bool fi) from rfl)
  have d1 := (cell_of_row _ _ 1 _ _ _ q).trans (show _ = some (.bool la) from rfl)
  have d2 := (cell_of_row _ _ 2 _ _ _ q).trans (show _ = some (.slice A n c) from rfl)
  have hK := Lib.hid (h.ext hb)
  obtain ⟨A1, c1', b1, hv, -, -, -, -, -, -⟩ := (h.ext hb).row.sl
  have k0 := (h.ext hb).box.c0
  rw [hv, ← hm] at k0
  have hO1 := fun W (hW : KIn P W B g v k) => hO W hW
  obtain ⟨f, hf⟩ : ∃ f, f = decide (0 < m) := ⟨_, rfl⟩
  rw [← hf] at hR hO1
  have HR := Lib.hid hR
  clear hR hn hfi hla q h hm hv hO hf
  have hO2 := fun j => hO1 ((w.alloc (.cells #[.bool fi, .bool la, .slice A n c] 96)).drewN j) ⟨hK.out.box, hK.out.row, hK.out.none_⟩
  clear hO1
  by_cases h1 : fi = f
  · have e1 : (fi == f) = true := by simpa using h1
    have hr : refuseN k x = 2 := by rw [HR.out, if_pos h1]
    rw [hr]
    clear h1
    go_enter Tryd.func88, Tryd.ntmps88
    go_wp2_with fail
    go_quiet ((go_at_call 92; exact Calls.quiet_of_same (hO2 _)))
    go_wp2_with fail
    go_ret
    exact ⟨rfl, by first | exact hb | exact below_drewN hb _⟩
  · have e1 : (fi == f) = false := by simpa using h1
    by_cases h2 : 64 < n
    · have hr : refuseN k x = 2 := by rw [HR.out, if_neg h1, if_pos h2]
      rw [hr]
      clear h1
      go_enter Tryd.func88, Tryd.ntmps88
      go_wp2_with fail
      go_quiet ((go_at_call 92; exact Calls.quiet_of_same (hO2 _)))
      go_wp2_with fail
      go_ret
      exact ⟨rfl, by first | exact hb | exact below_drewN hb _⟩
    · have e5 := IntWalk.i64_in ((m : Int) + (n : Int)) (by omega)
      by_cases h3 : la = false ∧ n < 64
      · have hr : refuseN k x = 2 := by rw [HR.out, if_neg h1, if_neg h2, if_pos h3]
        rw [hr]
        obtain ⟨rfl, h3⟩ := h3
        clear h1
        go_enter Tryd.func88, Tryd.ntmps88
        go_wp2_with fail
        go_quiet ((go_at_call 92; exact Calls.quiet_of_same (hO2 _)))
        go_wp2_with fail
        go_ret
        exact ⟨rfl, by first | exact hb | exact below_drewN hb _⟩
      · have e3 : (!la && decide ((n : Int) < 64)) = false := by
          cases la
          · simp at h3 ⊢; omega
          · rfl
        by_cases h4 : 1024 < m + n
        · have hr : refuseN k x = 4 := by rw [HR.out, if_neg h1, if_neg h2, if_neg h3, if_pos h4]
          rw [hr]
          have h4' : 1024 < (m : Int) + (n : Int) := by omega
          cases la
          · have h3' : ¬ n < 64 := fun h => h3 ⟨rfl, h⟩
            clear h1 h3 e3
            go_enter Tryd.func88, Tryd.ntmps88
            go_wp2_with fail
            go_quiet ((go_at_call 92; exact Calls.quiet_of_same (hO2 _)))
            go_wp2_with fail
            go_ret
            exact ⟨rfl, by first | exact hb | exact below_drewN hb _⟩
          · clear h1 h3 e3
            go_enter Tryd.func88, Tryd.ntmps88
            go_wp2_with fail
            go_quiet ((go_at_call 92; exact Calls.quiet_of_same (hO2 _)))
            go_wp2_with fail
            go_ret
            exact ⟨rfl, by first | exact hb | exact below_drewN hb _⟩
        · have hr : refuseN k x = 0 := by rw [HR.out, if_neg h1, if_neg h2, if_neg h3, if_neg h4]
          rw [hr]
          have h4' : ¬ 1024 < (m : Int) + (n : Int) := by omega
          cases la
          · have h3' : ¬ n < 64 := fun h => h3 ⟨rfl, h⟩
            clear h1 h3 e3
            go_enter Tryd.func88, Tryd.ntmps88
            go_wp2_with fail
            go_quiet ((go_at_call 92; exact Calls.quiet_of_same (hO2 _)))
            go_wp2_with fail
            go_ret
            exact ⟨rfl, by first | exact hb | exact below_drewN hb _⟩
          · clear h1 h3 e3
            go_enter Tryd.func88, Tryd.ntmps88
            go_wp2_with fail
            go_quiet ((go_at_call 92; exact Calls.quiet_of_same (hO2 _)))
            go_wp2_with fail
            go_ret
            exact ⟨rfl, by first | exact hb | exact below_drewN hb _⟩

theorem putB_left {k : Bk} {x : Pc} (h : k.leaving = true ∧ x.first = false) : putB k x = (k, [], false, 0) := by unfold putB; rw [if_pos h]
theorem putB_bad {k : Bk} {x : Pc} (h : ¬ (k.leaving = true ∧ x.first = false)) (h2 : refuseN k x ≠ 0) : putB k x = (⟨[], true⟩, [], false, refuseN k x) := by unfold putB; rw [if_neg h, if_pos h2]
theorem putB_last {k : Bk} {x : Pc} (h : ¬ (k.leaving = true ∧ x.first = false)) (h2 : refuseN k x = 0) (h3 : x.last = true) : putB k x = (⟨[], false⟩, k.held ++ x.data, true, 0) := by unfold putB; rw [if_neg h, if_neg (by simp [h2]), if_pos h3]
theorem putB_more {k : Bk} {x : Pc} (h : ¬ (k.leaving = true ∧ x.first = false)) (h2 : refuseN k x = 0) (h3 : x.last = false) : putB k x = (⟨k.held ++ x.data, false⟩, [], false, 0) := by unfold putB; rw [if_neg h, if_neg (by simp [h2]), if_neg (by simp [h3])]
theorem refuse_ok {k : Bk} {x : Pc} (h : refuseN k x = 0) : x.data.length ≤ 64 ∧ k.held.length + x.data.length ≤ 1024 ∧ (x.last = false → x.data.length = 64) := by
  unfold refuseN at h
  split at h
  · cases h
  · split at h
    · cases h
    · split at h
      · cases h
      · split at h
        · cases h
        · rename_i h3 h4
          refine ⟨by omega, by omega, fun hl => ?_⟩
          rcases Nat.lt_or_ge x.data.length 64 with h5 | h5
          · exact absurd ⟨hl, h5⟩ h3
          · omega
theorem refuse_le (k : Bk) (x : Pc) : refuseN k x ≤ 4 := by
  unfold refuseN
  repeat' split
  all_goals omega

theorem step_app2 {ops : Array Oper} {o : Oper} {a : Act} {K : Act → World → Prop} {Q : Exit → Act → World → Prop} {E : Prop} (w : World) (hgd : o.guard = none) (s x : Operand)
    (ho : o.op = .call { callee := .builtin .append, args := #[s, x], argTypes := #[31, 31] })
    (B : Nat) (v : Value) (l : List UInt8) (hs : a.eval s = v) (hown : Row w B v l)
    (b : Nat) (A : Option Addr) (m c : Nat) (news : List UInt8) (hx : a.eval x = .slice A m c) (hr : Bs w b A news) (hm : news.length = m)
    (hlen : l.length + m ≤ 140737488355328) (hbase : B ≤ w.heap.size)
    (h : ∀ v' w', Row w' B v' (l ++ news) → Mod (fun i => v.ownBlock = some i) w w' → (v'.ownBlock = v.ownBlock ∨ v'.ownBlock = some w.heap.size) → K (a.put o.dst v') w') : if Region.wanted o (yielded ops a.tmps) = true then Oper.wp Tryd.prog o a w K Q else E := by
  have hw : Region.wanted o (yielded ops a.tmps) = true := by simp [Region.wanted, hgd]
  rw [if_pos hw]
  obtain ⟨i0, hi0, hz0, hz1, hz2⟩ := info_parts byte_info
  refine wp_append_sl (P := Tryd.prog) w s x _ ho B 5 i0 _ 1 1 Tryd.underlying31 hi0 hz0 hz1 hz2 rfl (by omega) v l.length (bv l) hs hown b A m c (bv news) hx hr (by simp [hm]) (Sl.none_len hr (by simp [hm])) (bv_one _)
    (by simp only [maxLen]; omega) (by omega) hbase ?_
  intro v' w' h1 h2 h3
  exact h v' w' (by unfold Row; rw [List.length_append, hm, bv_append]; exact h1) (Mod.of_grown h2) h3

set_option maxHeartbeats 2000000 in
set_option maxRecDepth 20000 in
theorem Put2_calls (P : BP) (B g : Nat) (v : Value) (k : Bk) (x : Pc) (A : Option Addr) (c b : Nat) (w : World) (h : KIn P w B g v k) (hk : k.held.length ≤ 1024) (hs : Bs w b A x.data) (hbg : x.data ≠ [] → b ≠ g) (hx : x.data.length ≤ maxLen) (hB : B ≤ w.heap.size) :
    Calls Tryd.prog 73 #[.pointer (some ⟨g, 7, none⟩), .agg #[.bool x.first, .bool x.last, .slice A x.data.length c]] w fun e w' => ∃ v2 vo, e = .returned (.tuple #[vo, .bool (putB k x).2.2.1, .int .i64 (putB k x).2.2.2]) ∧ KIn P w' B g v2 (putB k x).1 ∧ Row w' B vo (putB k x).2.1 ∧ Mod (fun i => i = g ∨ v.ownBlock = some i) w w' ∧ (v2.ownBlock = v.ownBlock ∨ v2.ownBlock = none ∨ ∃ j, v2.ownBlock = some j ∧ w.heap.size ≤ j) ∧ (vo.ownBlock = v.ownBlock ∨ vo.ownBlock = none ∨ ∃ j, vo.ownBlock = some j ∧ w.heap.size ≤ j) := by
  obtain ⟨n, hn⟩ : ∃ n, n = x.data.length := ⟨_, rfl⟩
  obtain ⟨fi, hfi⟩ : ∃ fi, fi = x.first := ⟨_, rfl⟩
  obtain ⟨la, hla⟩ : ∃ la, la = x.last := ⟨_, rfl⟩
  obtain ⟨lv, hlv⟩ : ∃ lv, lv = k.leaving := ⟨_, rfl⟩
  obtain ⟨W0, hW0⟩ : ∃ W0, W0 = w.alloc (.cells #[.bool fi, .bool la, .slice A n c] 96) := ⟨_, rfl⟩
  have hF := refuses_calls P B g v k x A c W0
  have hglt := h.box.lt
  have hb : Below w.heap.size w W0 := by rw [hW0]; exact below_alloc1 w _
  have q : W0.heap[w.heap.size]? = some (.cells #[.bool fi, .bool la, .slice A n c] 96 (0, 0)) := by rw [hW0]; exact heap_alloc_new w _
  have hK := h.ext hb
  replace hF := hF hK hk hx
  have hsx := Sl.ext hs hb
  rw [← hn, ← hfi, ← hla] at hF ⊢
  rw [← hn] at hx
  have hvlt := h.row.lt
  have d0 := (cell_of_row _ _ 0 _ _ _ q).trans (show _ = some (.bool fi) from rfl)
  have d1 := (cell_of_row _ _ 1 _ _ _ q).trans (show _ = some (.bool la) from rfl)
  have d2 := (cell_of_row _ _ 2 _ _ _ q).trans (show _ = some (.slice A n c) from rfl)
  have k0 := hK.box.c0
  have k1 := hK.box.c1
  rw [← hlv] at k1
  have hgne : ¬ g = w.heap.size := by omega
  have hgne2 : ¬ w.heap.size = g := by omega
  have HK := Lib.hid hK
  have HQ := Lib.hid q
  have HS := Lib.hid hsx
  have HV := Lib.hid hvlt
  have HN := Lib.hid hn
  have HFI := Lib.hid hfi
  have HLA := Lib.hid hla
  have HLV := Lib.hid hlv
  have HB := Lib.hid hB
  have HRF := Lib.hid (refuse_le k x)
  have HBG := Lib.hid hbg
  clear hK q hsx hvlt hn hfi hla hlv hB h hs hx hbg
  subst hW0
  go_enter Tryd.func73, Tryd.ntmps73
  by_cases hc : lv = true ∧ fi = false
  · obtain ⟨rfl, rfl⟩ := hc
    have e1 := putB_left (k := k) (x := x) ⟨by rw [← HLV.out], by rw [← HFI.out]⟩
    rw [e1]
    go_wp2_with fail
    go_ret3
    exact ⟨v, _, rfl, HK.out, Row.nil_ _ _, (Mod.of_below hb).mono (fun i hi h => by omega), .inl rfl, .inr (.inl rfl)⟩
  · cases lv
    · clear hc
      by_cases hR : refuseN k x = 0
      · cases la
        · have hz : ((refuseN k x : Int) != 0) = false := by rw [hR]; rfl
          obtain ⟨hl1, hl2, hl3⟩ := refuse_ok hR
          have e1 := putB_more (k := k) (x := x) (by rw [← HLV.out, ← HFI.out]; simp) hR HLA.out.symm
          have hl4 := hl3 HLA.out.symm
          rw [e1]
          have hnl : n ≤ 64 := by rw [HN.out]; exact hl1
          have HL2 := Lib.hid hl2
          have HL3 := Lib.hid hl3
          clear hl1 hl2 hl3
          go_wp2_with fail
          refine hF.mono ?_
          rintro e w1 ⟨rfl, h1⟩
          have q1 := HK.out.box.ext h1
          rw [← HLV.out] at q1
          have row1 := HK.out.row.ext h1
          have hap := q1.apart row1
          have h1s := h1.size
          rw [World.size_alloc] at h1s
          have qp := HQ.out
          replace qp := (h1.block _ (by simp)).trans qp
          have hpg : w.heap.size ≠ g := hgne2
          have q2 := q1.set1 false
          have row2 := Row.mod row1 (Mod.setCell w1 ⟨g, 8, none⟩ (.bool false)) (fun j hj h => hap (hj.trans (congrArg some h)))
          have qp2 := (heap_setCell_other w1 ⟨g, 8, none⟩ w.heap.size (.bool false) hpg).trans qp
          have hs1 := Sl.ext HS.out h1
          have hs2 : Bs (w1.setCell ⟨g, 8, none⟩ (.bool false)) b A x.data := by
            exact Bs.modne hs1 (Mod.setCell w1 ⟨g, 8, none⟩ (.bool false)) (fun hl e => HBG.out hl e)
          have c1 := q1.c1
          have f1 := q1.fz 8
          have g0 := q2.c0
          have g1 := q2.c1
          have gf0 := q2.fz 7
          have d1 := (cell_of_row _ _ 1 _ _ _ qp2).trans (show _ = some (.bool false) from rfl)
          have d2 := (cell_of_row _ _ 2 _ _ _ qp2).trans (show _ = some (.slice A n c) from rfl)
          have hW : w.heap.size < (w1.setCell ⟨g, 8, none⟩ (.bool false)).heap.size := by simp; omega
          have hap2 := q2.apart row2
          have hBw : B ≤ ((w1.setCell ⟨g, 8, none⟩ (.bool false)).drew).heap.size := by have := HB.out; simp; omega
          have Q1 := Lib.hid q1
          have Q2 := Lib.hid q2
          have QP := Lib.hid qp2
          have R1 := Lib.hid row1
          have R2 := Lib.hid row2
          have HS2 := Lib.hid hs2
          have HAP := Lib.hid hap2
          have HV1 := Lib.hid hap
          clear k0 k1 d0 q1 row1 q2 row2 qp qp2 hs1 hs2 hap hap2
          go_wp2_with fail
          go_region_law (refine step_app2 _ rfl (.tmp 36) (.tmp 38) rfl B v k.held rfl (ownsP_mod R2.out (Mod.drew (fun _ => False) _) (fun _ _ h => h)) b A n c x.data rfl HS2.out HN.out.symm (by omega) hBw ?_; intro v' w3 hrow3 hmod3 hat3; (obtain ⟨A3, c3, b3, rfl, -, -, -, -, -, -⟩ := hrow3.sl); (have q3 : BoxK P w3 g v false := Q2.out.mod (S := fun i => v.ownBlock = some i) (w' := w3) ⟨hmod3.os, hmod3.tape, hmod3.output, hmod3.size, hmod3.block⟩ (fun h => HAP.out h)); (have p3 := (hmod3.block w.heap.size hW (fun h => by have := (HV.out _ h).2; omega)).trans QP.out); (have t0 := q3.c0); (have u0 := q3.fz 7); (have t1 := (cell_of_row _ _ 1 _ _ _ p3).trans (show _ = some (.bool false) from rfl)); (have Q3 := Lib.hid q3); (have R3 := Lib.hid hrow3); clear q3 p3 hrow3)
          all_goals (
            go_wp2_with fail
            go_ret3
            have hmA : Mod (fun i => i = g ∨ v.ownBlock = some i) w w3 := ((Mod.of_below (hb.trans (h1.mono (by simp)))).trans ((Mod.setCell w1 ⟨g, 8, none⟩ (.bool false)).trans (⟨hmod3.os, hmod3.tape, hmod3.output, hmod3.size, hmod3.block⟩ : Mod (fun i => v.ownBlock = some i) (w1.setCell ⟨g, 8, none⟩ (.bool false)) w3) (S := fun i => i = g ∨ v.ownBlock = some i) (fun i _ h => .inl h) (fun i _ h => .inr h)) (fun i hi h => by omega) (fun i _ h => h))
            have hap3 := Q3.out.apart R3.out
            have r4 := R3.out.mod (Mod.setCell w3 ⟨g, 7, none⟩ (.slice A3 (k.held.length + 64) c3)) (fun j hj h => hap3 (hj.trans (congrArg some h)))
            have el : (k.held ++ x.data).length = k.held.length + 64 := by rw [List.length_append, hl4]
            rw [el] at r4 hap3
            have q4 := Q3.out.set0 (.slice A3 (k.held.length + 64) c3)
            have hAT : (Value.slice A3 (k.held.length + 64) c3).ownBlock = v.ownBlock ∨ (Value.slice A3 (k.held.length + 64) c3).ownBlock = none ∨ ∃ j, (Value.slice A3 (k.held.length + 64) c3).ownBlock = some j ∧ w.heap.size ≤ j := by
              rw [← el]
              rcases hat3 with h | h
              · exact .inl h
              · exact .inr (.inr ⟨_, h, by have := hb.size; simp; omega⟩)
            exact ⟨_, _, rfl, ⟨q4, r4, fun h => by have := congrArg List.length h; rw [el] at this; simp at this⟩, Row.nil_ _ _, hmA.trans (Mod.setCell w3 ⟨g, 7, none⟩ _) (fun i _ h => h) (fun i _ h => .inl h), hAT, .inr (.inl rfl)⟩)
        · have hz : ((refuseN k x : Int) != 0) = false := by rw [hR]; rfl
          obtain ⟨hl1, hl2, hl3⟩ := refuse_ok hR
          have e1 := putB_last (k := k) (x := x) (by rw [← HLV.out, ← HFI.out]; simp) hR HLA.out.symm
          rw [e1]
          have hnl : n ≤ 64 := by rw [HN.out]; exact hl1
          have HL2 := Lib.hid hl2
          have HL3 := Lib.hid hl3
          clear hl1 hl2 hl3
          go_wp2_with fail
          refine hF.mono ?_
          rintro e w1 ⟨rfl, h1⟩
          have q1 := HK.out.box.ext h1
          rw [← HLV.out] at q1
          have row1 := HK.out.row.ext h1
          have hap := q1.apart row1
          have h1s := h1.size
          rw [World.size_alloc] at h1s
          have qp := HQ.out
          replace qp := (h1.block _ (by simp)).trans qp
          have hpg : w.heap.size ≠ g := hgne2
          have q2 := q1.set1 false
          have row2 := Row.mod row1 (Mod.setCell w1 ⟨g, 8, none⟩ (.bool false)) (fun j hj h => hap (hj.trans (congrArg some h)))
          have qp2 := (heap_setCell_other w1 ⟨g, 8, none⟩ w.heap.size (.bool false) hpg).trans qp
          have hs1 := Sl.ext HS.out h1
          have hs2 : Bs (w1.setCell ⟨g, 8, none⟩ (.bool false)) b A x.data := by
            exact Bs.modne hs1 (Mod.setCell w1 ⟨g, 8, none⟩ (.bool false)) (fun hl e => HBG.out hl e)
          have c1 := q1.c1
          have f1 := q1.fz 8
          have g0 := q2.c0
          have g1 := q2.c1
          have gf0 := q2.fz 7
          have d1 := (cell_of_row _ _ 1 _ _ _ qp2).trans (show _ = some (.bool true) from rfl)
          have d2 := (cell_of_row _ _ 2 _ _ _ qp2).trans (show _ = some (.slice A n c) from rfl)
          have hW : w.heap.size < (w1.setCell ⟨g, 8, none⟩ (.bool false)).heap.size := by simp; omega
          have hap2 := q2.apart row2
          have hBw : B ≤ ((w1.setCell ⟨g, 8, none⟩ (.bool false)).drew).heap.size := by have := HB.out; simp; omega
          have Q1 := Lib.hid q1
          have Q2 := Lib.hid q2
          have QP := Lib.hid qp2
          have R1 := Lib.hid row1
          have R2 := Lib.hid row2
          have HS2 := Lib.hid hs2
          have HAP := Lib.hid hap2
          have HV1 := Lib.hid hap
          clear k0 k1 d0 q1 row1 q2 row2 qp qp2 hs1 hs2 hap hap2
          go_wp2_with fail
          go_region_law (refine step_app2 _ rfl (.tmp 36) (.tmp 38) rfl B v k.held rfl (ownsP_mod R2.out (Mod.drew (fun _ => False) _) (fun _ _ h => h)) b A n c x.data rfl HS2.out HN.out.symm (by omega) hBw ?_; intro v' w3 hrow3 hmod3 hat3; (obtain ⟨A3, c3, b3, rfl, -, -, -, -, -, -⟩ := hrow3.sl); (have q3 : BoxK P w3 g v false := Q2.out.mod (S := fun i => v.ownBlock = some i) (w' := w3) ⟨hmod3.os, hmod3.tape, hmod3.output, hmod3.size, hmod3.block⟩ (fun h => HAP.out h)); (have p3 := (hmod3.block w.heap.size hW (fun h => by have := (HV.out _ h).2; omega)).trans QP.out); (have t0 := q3.c0); (have u0 := q3.fz 7); (have t1 := (cell_of_row _ _ 1 _ _ _ p3).trans (show _ = some (.bool true) from rfl)); (have Q3 := Lib.hid q3); (have R3 := Lib.hid hrow3); clear q3 p3 hrow3)
          all_goals (
            have hmA : Mod (fun i => i = g ∨ v.ownBlock = some i) w w3 := ((Mod.of_below (hb.trans (h1.mono (by simp)))).trans ((Mod.setCell w1 ⟨g, 8, none⟩ (.bool false)).trans (⟨hmod3.os, hmod3.tape, hmod3.output, hmod3.size, hmod3.block⟩ : Mod (fun i => v.ownBlock = some i) (w1.setCell ⟨g, 8, none⟩ (.bool false)) w3) (S := fun i => i = g ∨ v.ownBlock = some i) (fun i _ h => .inl h) (fun i _ h => .inr h)) (fun i hi h => by omega) (fun i _ h => h))
            have hap3 := Q3.out.apart R3.out
            have r4 := R3.out.mod (Mod.setCell w3 ⟨g, 7, none⟩ (.slice A3 (k.held.length + x.data.length) c3)) (fun j hj h => hap3 (hj.trans (congrArg some h)))
            have el : (k.held ++ x.data).length = k.held.length + x.data.length := List.length_append
            rw [el] at r4 hap3
            have q4 := Q3.out.set0 (.slice A3 (k.held.length + x.data.length) c3)
            have hAT : (Value.slice A3 (k.held.length + x.data.length) c3).ownBlock = v.ownBlock ∨ (Value.slice A3 (k.held.length + x.data.length) c3).ownBlock = none ∨ ∃ j, (Value.slice A3 (k.held.length + x.data.length) c3).ownBlock = some j ∧ w.heap.size ≤ j := by
              rw [← el]
              rcases hat3 with h | h
              · exact .inl h
              · exact .inr (.inr ⟨_, h, by have := hb.size; simp; omega⟩)
            go_wp2_with fail
            refine (Clear_calls P B g _ false _ q4).mono ?_
            rintro e w5 ⟨rfl, hK5, hm5⟩
            go_wp2_with fail
            go_ret3
            exact ⟨_, _, rfl, hK5, r4.mod hm5 (fun j hj h => hap3 (hj.trans (congrArg some h))), (hmA.trans (Mod.setCell w3 ⟨g, 7, none⟩ _) (fun i _ h => h) (fun i _ h => .inl h)).trans hm5 (fun i _ h => h) (fun i _ h => .inl h), .inr (.inl rfl), hAT⟩)
      · have hz : ((refuseN k x : Int) != 0) = true := by simp; omega
        have hr4 := HRF.out
        have e1 := putB_bad (k := k) (x := x) (by rw [← HLV.out, ← HFI.out]; simp) hR
        rw [e1]
        go_wp2_with fail
        refine hF.mono ?_
        rintro e w1 ⟨rfl, h1⟩
        have q1 := HK.out.box.ext h1
        rw [← HLV.out] at q1
        have row1 := HK.out.row.ext h1
        have hap := q1.apart row1
        have h1s := h1.size
        rw [World.size_alloc] at h1s
        have c0 := q1.c0
        have c1 := q1.c1
        have f0 := q1.fz 7
        have f1 := q1.fz 8
        have Q1 := Lib.hid q1
        clear k0 k1 d0 d1 d2 q1 row1
        go_wp2_with fail
        go_ret3
        exact ⟨_, _, rfl, ⟨(Q1.out.set0 _).set1 _, Row.nil_ _ _, fun _ => rfl⟩, Row.nil_ _ _, ((Mod.of_below (hb.trans (h1.mono (by simp)))).trans ((Mod.setCell w1 ⟨g, 7, none⟩ _).trans (Mod.setCell _ ⟨g, 8, none⟩ _) (fun i _ h => h) (fun i _ h => h)) (fun i hi h => by omega) (fun i _ h => .inl h)), .inr (.inl rfl), .inr (.inl rfl)⟩
    · cases fi
      · exact absurd ⟨rfl, rfl⟩ hc
      · clear hc
        by_cases hR : refuseN k x = 0
        · cases la
          · have hz : ((refuseN k x : Int) != 0) = false := by rw [hR]; rfl
            obtain ⟨hl1, hl2, hl3⟩ := refuse_ok hR
            have e1 := putB_more (k := k) (x := x) (by rw [← HLV.out, ← HFI.out]; simp) hR HLA.out.symm
            have hl4 := hl3 HLA.out.symm
            rw [e1]
            have hnl : n ≤ 64 := by rw [HN.out]; exact hl1
            have HL2 := Lib.hid hl2
            have HL3 := Lib.hid hl3
            clear hl1 hl2 hl3
            go_wp2_with fail
            refine hF.mono ?_
            rintro e w1 ⟨rfl, h1⟩
            have q1 := HK.out.box.ext h1
            rw [← HLV.out] at q1
            have row1 := HK.out.row.ext h1
            have hap := q1.apart row1
            have h1s := h1.size
            rw [World.size_alloc] at h1s
            have qp := HQ.out
            replace qp := (h1.block _ (by simp)).trans qp
            have hpg : w.heap.size ≠ g := hgne2
            have q2 := q1.set1 false
            have row2 := Row.mod row1 (Mod.setCell w1 ⟨g, 8, none⟩ (.bool false)) (fun j hj h => hap (hj.trans (congrArg some h)))
            have qp2 := (heap_setCell_other w1 ⟨g, 8, none⟩ w.heap.size (.bool false) hpg).trans qp
            have hs1 := Sl.ext HS.out h1
            have hs2 : Bs (w1.setCell ⟨g, 8, none⟩ (.bool false)) b A x.data := by
              exact Bs.modne hs1 (Mod.setCell w1 ⟨g, 8, none⟩ (.bool false)) (fun hl e => HBG.out hl e)
            have c1 := q1.c1
            have f1 := q1.fz 8
            have g0 := q2.c0
            have g1 := q2.c1
            have gf0 := q2.fz 7
            have d1 := (cell_of_row _ _ 1 _ _ _ qp2).trans (show _ = some (.bool false) from rfl)
            have d2 := (cell_of_row _ _ 2 _ _ _ qp2).trans (show _ = some (.slice A n c) from rfl)
            have hW : w.heap.size < (w1.setCell ⟨g, 8, none⟩ (.bool false)).heap.size := by simp; omega
            have hap2 := q2.apart row2
            have hBw : B ≤ ((w1.setCell ⟨g, 8, none⟩ (.bool false)).drew).heap.size := by have := HB.out; simp; omega
            have Q1 := Lib.hid q1
            have Q2 := Lib.hid q2
            have QP := Lib.hid qp2
            have R1 := Lib.hid row1
            have R2 := Lib.hid row2
            have HS2 := Lib.hid hs2
            have HAP := Lib.hid hap2
            have HV1 := Lib.hid hap
            clear k0 k1 d0 q1 row1 q2 row2 qp qp2 hs1 hs2 hap hap2
            go_wp2_with fail
            go_region_law (refine step_app2 _ rfl (.tmp 36) (.tmp 38) rfl B v k.held rfl (ownsP_mod R2.out (Mod.drew (fun _ => False) _) (fun _ _ h => h)) b A n c x.data rfl HS2.out HN.out.symm (by omega) hBw ?_; intro v' w3 hrow3 hmod3 hat3; (obtain ⟨A3, c3, b3, rfl, -, -, -, -, -, -⟩ := hrow3.sl); (have q3 : BoxK P w3 g v false := Q2.out.mod (S := fun i => v.ownBlock = some i) (w' := w3) ⟨hmod3.os, hmod3.tape, hmod3.output, hmod3.size, hmod3.block⟩ (fun h => HAP.out h)); (have p3 := (hmod3.block w.heap.size hW (fun h => by have := (HV.out _ h).2; omega)).trans QP.out); (have t0 := q3.c0); (have u0 := q3.fz 7); (have t1 := (cell_of_row _ _ 1 _ _ _ p3).trans (show _ = some (.bool false) from rfl)); (have Q3 := Lib.hid q3); (have R3 := Lib.hid hrow3); clear q3 p3 hrow3)
            all_goals (
              go_wp2_with fail
              go_ret3
              have hmA : Mod (fun i => i = g ∨ v.ownBlock = some i) w w3 := ((Mod.of_below (hb.trans (h1.mono (by simp)))).trans ((Mod.setCell w1 ⟨g, 8, none⟩ (.bool false)).trans (⟨hmod3.os, hmod3.tape, hmod3.output, hmod3.size, hmod3.block⟩ : Mod (fun i => v.ownBlock = some i) (w1.setCell ⟨g, 8, none⟩ (.bool false)) w3) (S := fun i => i = g ∨ v.ownBlock = some i) (fun i _ h => .inl h) (fun i _ h => .inr h)) (fun i hi h => by omega) (fun i _ h => h))
              have hap3 := Q3.out.apart R3.out
              have r4 := R3.out.mod (Mod.setCell w3 ⟨g, 7, none⟩ (.slice A3 (k.held.length + 64) c3)) (fun j hj h => hap3 (hj.trans (congrArg some h)))
              have el : (k.held ++ x.data).length = k.held.length + 64 := by rw [List.length_append, hl4]
              rw [el] at r4 hap3
              have q4 := Q3.out.set0 (.slice A3 (k.held.length + 64) c3)
              have hAT : (Value.slice A3 (k.held.length + 64) c3).ownBlock = v.ownBlock ∨ (Value.slice A3 (k.held.length + 64) c3).ownBlock = none ∨ ∃ j, (Value.slice A3 (k.held.length + 64) c3).ownBlock = some j ∧ w.heap.size ≤ j := by
                rw [← el]
                rcases hat3 with h | h
                · exact .inl h
                · exact .inr (.inr ⟨_, h, by have := hb.size; simp; omega⟩)
              exact ⟨_, _, rfl, ⟨q4, r4, fun h => by have := congrArg List.length h; rw [el] at this; simp at this⟩, Row.nil_ _ _, hmA.trans (Mod.setCell w3 ⟨g, 7, none⟩ _) (fun i _ h => h) (fun i _ h => .inl h), hAT, .inr (.inl rfl)⟩)
          · have hz : ((refuseN k x : Int) != 0) = false := by rw [hR]; rfl
            obtain ⟨hl1, hl2, hl3⟩ := refuse_ok hR
            have e1 := putB_last (k := k) (x := x) (by rw [← HLV.out, ← HFI.out]; simp) hR HLA.out.symm
            rw [e1]
            have hnl : n ≤ 64 := by rw [HN.out]; exact hl1
            have HL2 := Lib.hid hl2
            have HL3 := Lib.hid hl3
            clear hl1 hl2 hl3
            go_wp2_with fail
            refine hF.mono ?_
            rintro e w1 ⟨rfl, h1⟩
            have q1 := HK.out.box.ext h1
            rw [← HLV.out] at q1
            have row1 := HK.out.row.ext h1
            have hap := q1.apart row1
            have h1s := h1.size
            rw [World.size_alloc] at h1s
            have qp := HQ.out
            replace qp := (h1.block _ (by simp)).trans qp
            have hpg : w.heap.size ≠ g := hgne2
            have q2 := q1.set1 false
            have row2 := Row.mod row1 (Mod.setCell w1 ⟨g, 8, none⟩ (.bool false)) (fun j hj h => hap (hj.trans (congrArg some h)))
            have qp2 := (heap_setCell_other w1 ⟨g, 8, none⟩ w.heap.size (.bool false) hpg).trans qp
            have hs1 := Sl.ext HS.out h1
            have hs2 : Bs (w1.setCell ⟨g, 8, none⟩ (.bool false)) b A x.data := by
              exact Bs.modne hs1 (Mod.setCell w1 ⟨g, 8, none⟩ (.bool false)) (fun hl e => HBG.out hl e)
            have c1 := q1.c1
            have f1 := q1.fz 8
            have g0 := q2.c0
            have g1 := q2.c1
            have gf0 := q2.fz 7
            have d1 := (cell_of_row _ _ 1 _ _ _ qp2).trans (show _ = some (.bool true) from rfl)
            have d2 := (cell_of_row _ _ 2 _ _ _ qp2).trans (show _ = some (.slice A n c) from rfl)
            have hW : w.heap.size < (w1.setCell ⟨g, 8, none⟩ (.bool false)).heap.size := by simp; omega
            have hap2 := q2.apart row2
            have hBw : B ≤ ((w1.setCell ⟨g, 8, none⟩ (.bool false)).drew).heap.size := by have := HB.out; simp; omega
            have Q1 := Lib.hid q1
            have Q2 := Lib.hid q2
            have QP := Lib.hid qp2
            have R1 := Lib.hid row1
            have R2 := Lib.hid row2
            have HS2 := Lib.hid hs2
            have HAP := Lib.hid hap2
            have HV1 := Lib.hid hap
            clear k0 k1 d0 q1 row1 q2 row2 qp qp2 hs1 hs2 hap hap2
            go_wp2_with fail
            go_region_law (refine step_app2 _ rfl (.tmp 36) (.tmp 38) rfl B v k.held rfl (ownsP_mod R2.out (Mod.drew (fun _ => False) _) (fun _ _ h => h)) b A n c x.data rfl HS2.out HN.out.symm (by omega) hBw ?_; intro v' w3 hrow3 hmod3 hat3; (obtain ⟨A3, c3, b3, rfl, -, -, -, -, -, -⟩ := hrow3.sl); (have q3 : BoxK P w3 g v false := Q2.out.mod (S := fun i => v.ownBlock = some i) (w' := w3) ⟨hmod3.os, hmod3.tape, hmod3.output, hmod3.size, hmod3.block⟩ (fun h => HAP.out h)); (have p3 := (hmod3.block w.heap.size hW (fun h => by have := (HV.out _ h).2; omega)).trans QP.out); (have t0 := q3.c0); (have u0 := q3.fz 7); (have t1 := (cell_of_row _ _ 1 _ _ _ p3).trans (show _ = some (.bool true) from rfl)); (have Q3 := Lib.hid q3); (have R3 := Lib.hid hrow3); clear q3 p3 hrow3)
            all_goals (
              have hmA : Mod (fun i => i = g ∨ v.ownBlock = some i) w w3 := ((Mod.of_below (hb.trans (h1.mono (by simp)))).trans ((Mod.setCell w1 ⟨g, 8, none⟩ (.bool false)).trans (⟨hmod3.os, hmod3.tape, hmod3.output, hmod3.size, hmod3.block⟩ : Mod (fun i => v.ownBlock = some i) (w1.setCell ⟨g, 8, none⟩ (.bool false)) w3) (S := fun i => i = g ∨ v.ownBlock = some i) (fun i _ h => .inl h) (fun i _ h => .inr h)) (fun i hi h => by omega) (fun i _ h => h))
              have hap3 := Q3.out.apart R3.out
              have r4 := R3.out.mod (Mod.setCell w3 ⟨g, 7, none⟩ (.slice A3 (k.held.length + x.data.length) c3)) (fun j hj h => hap3 (hj.trans (congrArg some h)))
              have el : (k.held ++ x.data).length = k.held.length + x.data.length := List.length_append
              rw [el] at r4 hap3
              have q4 := Q3.out.set0 (.slice A3 (k.held.length + x.data.length) c3)
              have hAT : (Value.slice A3 (k.held.length + x.data.length) c3).ownBlock = v.ownBlock ∨ (Value.slice A3 (k.held.length + x.data.length) c3).ownBlock = none ∨ ∃ j, (Value.slice A3 (k.held.length + x.data.length) c3).ownBlock = some j ∧ w.heap.size ≤ j := by
                rw [← el]
                rcases hat3 with h | h
                · exact .inl h
                · exact .inr (.inr ⟨_, h, by have := hb.size; simp; omega⟩)
              go_wp2_with fail
              refine (Clear_calls P B g _ false _ q4).mono ?_
              rintro e w5 ⟨rfl, hK5, hm5⟩
              go_wp2_with fail
              go_ret3
              exact ⟨_, _, rfl, hK5, r4.mod hm5 (fun j hj h => hap3 (hj.trans (congrArg some h))), (hmA.trans (Mod.setCell w3 ⟨g, 7, none⟩ _) (fun i _ h => h) (fun i _ h => .inl h)).trans hm5 (fun i _ h => h) (fun i _ h => .inl h), .inr (.inl rfl), hAT⟩)
        · have hz : ((refuseN k x : Int) != 0) = true := by simp; omega
          have hr4 := HRF.out
          have e1 := putB_bad (k := k) (x := x) (by rw [← HLV.out, ← HFI.out]; simp) hR
          rw [e1]
          go_wp2_with fail
          refine hF.mono ?_
          rintro e w1 ⟨rfl, h1⟩
          have q1 := HK.out.box.ext h1
          rw [← HLV.out] at q1
          have row1 := HK.out.row.ext h1
          have hap := q1.apart row1
          have h1s := h1.size
          rw [World.size_alloc] at h1s
          have c0 := q1.c0
          have c1 := q1.c1
          have f0 := q1.fz 7
          have f1 := q1.fz 8
          have Q1 := Lib.hid q1
          clear k0 k1 d0 d1 d2 q1 row1
          go_wp2_with fail
          go_ret3
          exact ⟨_, _, rfl, ⟨(Q1.out.set0 _).set1 _, Row.nil_ _ _, fun _ => rfl⟩, Row.nil_ _ _, ((Mod.of_below (hb.trans (h1.mono (by simp)))).trans ((Mod.setCell w1 ⟨g, 7, none⟩ _).trans (Mod.setCell _ ⟨g, 8, none⟩ _) (fun i _ h => h) (fun i _ h => h)) (fun i hi h => by omega) (fun i _ h => .inl h)), .inr (.inl rfl), .inr (.inl rfl)⟩
end Go.Proofs.YtcgbamkfflcdfaaDoor
/- A map of pieces by number: what stands at each number; its look-up, its store, its delete. Conditions: those said. -/
namespace Go.Proofs.YtcgbamkfflcdfaaDoor
open Go.RowKit
open Go.Maps (Keyed IsMap Tidy)
set_option linter.unusedVariables false

abbrev EF := Nat → Option Value
def updE (f : EF) (t : Nat) (x : Option Value) : EF := fun u => if u = t then x else f u
/-- A value that a map holds is told as it stands. -/
def holds (v : Value) : Option (DataW Value × List MemPlace) := some (.held v, [])
abbrev ownE (w : World) (b n : Nat) (D : DataW Value) : Prop := w.ownsMap Tryd.prog 42 holds b n D
def ekey (t : Nat) : Lit := .int .u16 (t : Int)
theorem e_law : Keyed Tryd.prog 42 := Maps.int_keyed Tryd.underlying42
theorem wf_u16 {t : Nat} (ht : t < 65536) : (Lit.int .u16 (t : Int)).wf = true := by
  first | exact WalkArith.wf_u16 (by omega) | (simp [Lit.wf]; omega) | (simp [Lit.wf, IntKind.min, IntKind.max]; omega)
theorem ekey_of {t : Nat} (ht : t < 65536) : keyOf Tryd.prog 42 (.int .u16 (t : Int)) = some (ekey t) := Maps.keyOf_int_mk Tryd.underlying42 (wf_u16 ht)
theorem ekey_ok {t : Nat} (ht : t < 65536) : WideAt.IsKeyLit (ekey t) := e_law.key (ekey_of ht)
theorem ekey_inj {t u : Nat} (h : ekey t = ekey u) : t = u := by
  unfold ekey at h
  injection h with _ h
  omega
def pcZ : Value := .agg #[.bool false, .bool false, .slice none 0 0]
def MpD (D : DataW Value) (f : EF) : Prop := ∀ t, t < 65536 → Maps.has D (ekey t) = (f t).isSome ∧ ∀ v, f t = some v → D.atKey (ekey t) (.held pcZ) = .held v
/-- Block b is a map of at most n entries: at each number what f says. -/
def Mp (w : World) (b n : Nat) (f : EF) : Prop := ∃ D, ownE w b n D ∧ MpD D f
theorem mapTE : Tryd.prog.underlying 81 = some (.map 42 96) := Tryd.underlying81
theorem ownE_keep {w w' : World} {b n : Nat} {D : DataW Value} (h : ownE w b n D) (hb : w'.heap[b]? = w.heap[b]?) : ownE w' b n D := by
  obtain ⟨es, clock, h1, h2⟩ := h
  exact ⟨es, clock, hb.trans h1, h2⟩
namespace Mp
variable {w w' : World} {b n : Nat} {f : EF}
theorem lt (h : Mp w b n f) : b < w.heap.size := by obtain ⟨D, h, _⟩ := h; exact h.lt
theorem keep (h : Mp w b n f) (hb : w'.heap[b]? = w.heap[b]?) : Mp w' b n f := by
  obtain ⟨D, h, hD⟩ := h
  exact ⟨D, ownE_keep h hb, hD⟩
theorem mod {S : Nat → Prop} (h : Mp w b n f) (hm : Mod S w w') (hs : ¬ S b) : Mp w' b n f := h.keep (hm.block b h.lt hs)
theorem ext (h : Mp w b n f) (hb : Below w.heap.size w w') : Mp w' b n f := h.keep (hb.block b h.lt)
theorem isMap (h : Mp w b n f) : ∃ es clock, w.heap[b]? = some (.map es clock) := by
  obtain ⟨D, ⟨es, clock, h1, _⟩, _⟩ := h
  exact ⟨es, clock, h1⟩
theorem empty {b : Nat} (h : w.heap[b]? = some (.map #[] 0)) : Mp w b 0 (fun _ => none) := by
  have h0 := World.ownsMap_made w Tryd.prog 42 holds
  obtain ⟨es, clock, h1, h2, h3, h4⟩ := h0
  rw [heap_alloc_new w (.map #[] 0)] at h1
  injection h1 with h1
  injection h1 with h1 h5
  subst h1 h5
  exact ⟨_, ⟨#[], 0, h, h2, h3, h4⟩, fun t _ => ⟨rfl, fun v h => by cases h⟩⟩
theorem mono (h : Mp w b n f) {m : Nat} (hm : n ≤ m) : Mp w b m f := by
  obtain ⟨D, h, hD⟩ := h
  exact ⟨D, h.mono hm, hD⟩
set_option maxRecDepth 100000 in
theorem look (h : Mp w b n f) {t : Nat} (ht : t < 65536) :
    (Instr.lookup 81 (.map (some b)) (.int .u16 (t : Int)) false).run Tryd.prog w = .ok ((f t).getD pcZ) w := by
  obtain ⟨D, h, hD⟩ := h
  obtain ⟨h1, h2⟩ := hD t ht
  have hz : (zeroValue 96).run Tryd.prog w = .ok pcZ w := piece_zero w
  obtain ⟨v, ps, hrun, hv⟩ := h.lookup e_law mapTE hz (zd := .held pcZ) (zp := []) rfl (ekey_of ht)
  have hv2 : (DataW.held v : DataW Value) = D.atKey (ekey t) (.held pcZ) := congrArg Prod.fst (Option.some.inj hv)
  rw [hrun]
  cases hf : f t with
  | none =>
    rw [hf] at h1
    rw [Maps.atKey_of_not_has h1] at hv2
    injection hv2 with hv2
    rw [hv2]
    rfl
  | some x =>
    rw [h2 x hf] at hv2
    injection hv2 with hv2
    rw [hv2]
    rfl
set_option maxRecDepth 100000 in
theorem store (h : Mp w b n f) (hn : n < maxLen) {t : Nat} (ht : t < 65536) (v : Value) :
    ∃ w', (Instr.mapUpdate 81 (.map (some b)) (.int .u16 (t : Int)) v).run Tryd.prog w = .ok () w' ∧ Mp w' b (n + 1) (updE f t (some v)) ∧ Mod (fun i => i = b) w w' ∧ w'.heap.size = w.heap.size := by
  obtain ⟨D, h, hD⟩ := h
  obtain ⟨w', hrun, hown, hturn⟩ := h.store e_law mapTE hn (ekey_of ht) (show holds v = some (.held v, []) from rfl)
  refine ⟨w', hrun, ⟨_, hown, fun u hu => ?_⟩, (Mod.of_grown hturn.grown).mono (fun i _ e => by injection e with e; exact e.symm), ?_⟩
  · unfold updE
    by_cases e : u = t
    · subst e
      rw [if_pos rfl, Maps.has_put_same h.isMap (ekey_ok hu)]
      refine ⟨rfl, fun x hx => ?_⟩
      injection hx with hx
      subst hx
      exact Maps.atKey_put_same h.isMap (ekey_ok hu) _ _
    · have hne : ekey u ≠ ekey t := fun e' => e (ekey_inj e')
      rw [if_neg e, Maps.has_put_other hne]
      refine ⟨(hD u hu).1, fun x hx => ?_⟩
      rw [Maps.atKey_put_other hne]
      exact (hD u hu).2 x hx
  · obtain ⟨es, clock, es', clock', _, rfl⟩ := hturn
    simp [ChangeMaps.setBlock]
set_option maxRecDepth 100000 in
theorem drop (h : Mp w b n f) {t : Nat} (ht : t < 65536) (ty : TypeId) :
    ∃ w', (Builtin.delete_ #[81, 42] ty #[.map (some b), .int .u16 (t : Int)]).run Tryd.prog w = .ok (.tuple #[]) w' ∧ Mp w' b n (updE f t none) ∧ Mod (fun i => i = b) w w' ∧ w'.heap.size = w.heap.size := by
  obtain ⟨D, h, hD⟩ := h
  obtain ⟨w', hrun, hown, hturn⟩ := h.drop e_law mapTE (ekey_of ht) ty
  refine ⟨w', hrun, ⟨_, hown, fun u hu => ?_⟩, (Mod.of_grown hturn.grown).mono (fun i _ e => by injection e with e; exact e.symm), ?_⟩
  · unfold updE
    by_cases e : u = t
    · subst e
      rw [if_pos rfl, Maps.has_del_same]
      exact ⟨rfl, fun x hx => by cases hx⟩
    · have hne : ekey u ≠ ekey t := fun e' => e (ekey_inj e')
      rw [if_neg e, Maps.has_del_other hne]
      refine ⟨(hD u hu).1, fun x hx => ?_⟩
      rw [Maps.atKey_del_other hne]
      exact (hD u hu).2 x hx
  · obtain ⟨es, clock, es', clock', _, rfl⟩ := hturn
    simp [ChangeMaps.setBlock]
end Mp
/-! ### at an operation -/
section
variable {ops : Array Oper} {rest : List Oper} {o : Oper} {a : Act} {w : World} {K : Act → World → Prop} {Q : Exit → Act → World → Prop} {b n : Nat} {f : EF}
theorem wp_mapUp (m x v : Operand) (ho : o.op = .mapUpdate 81 m x v) (b n : Nat) (f : EF) (t : Nat) (u : Value)
    (hm : a.eval m = .map (some b)) (hx : a.eval x = .int .u16 (t : Int)) (hv : a.eval v = u) (hMp : Mp w b n f) (hn : n < maxLen) (ht : t < 65536)
    (h : ∀ w', Mp w' b (n + 1) (updE f t (some u)) → Mod (fun i => i = b) w w' → w'.heap.size = w.heap.size → K (a.put o.dst undef) w') : o.wp Tryd.prog a w K Q := by
  obtain ⟨w', hrun, h1, h2, h3⟩ := hMp.store hn ht u
  unfold Oper.wp execOp
  simp only [ho, hm, hx, hv]
  simp [hrun, Result.andThen]
  exact h w' h1 h2 h3
theorem wp_mapDel (m x : Operand) (ho : o.op = .call { callee := .builtin .delete, args := #[m, x], argTypes := #[81, 42] }) (b n : Nat) (f : EF) (t : Nat)
    (hm : a.eval m = .map (some b)) (hx : a.eval x = .int .u16 (t : Int)) (hMp : Mp w b n f) (ht : t < 65536)
    (h : ∀ w', Mp w' b n (updE f t none) → Mod (fun i => i = b) w w' → w'.heap.size = w.heap.size → K (a.put o.dst (.tuple #[])) w') : o.wp Tryd.prog a w K Q := by
  obtain ⟨w', hrun, h1, h2, h3⟩ := hMp.drop ht o.type
  unfold Oper.wp execOp
  simp only [ho, resolve, invoke, builtin, Sem.run_bind, Sem.run_pure, Result.andThen_ok, List.map_toArray, List.map_cons, List.map_nil, hm, hx, hrun]
  exact h w' h1 h2 h3
theorem wpList_mapDel (hgd : o.guard = none) (m x : Operand) (ho : o.op = .call { callee := .builtin .delete, args := #[m, x], argTypes := #[81, 42] }) (b n : Nat) (f : EF) (t : Nat)
    (hm : a.eval m = .map (some b)) (hx : a.eval x = .int .u16 (t : Int)) (hMp : Mp w b n f) (ht : t < 65536)
    (h : ∀ w', Mp w' b n (updE f t none) → Mod (fun i => i = b) w w' → w'.heap.size = w.heap.size → wpList Tryd.prog ops Q rest (a.put o.dst (.tuple #[])) w') : wpList Tryd.prog ops Q (o :: rest) a w :=
  wpList_plain hgd fun K hK => wp_mapDel m x ho b n f t hm hx hMp ht fun w' h1 h2 h3 => hK _ _ (h w' h1 h2 h3)
end
theorem yk_lookE {ops : Array Oper} {S : World → Prop} {op : Oper} {a : Act} (hw : Region.wanted op (yielded ops a.tmps) = true) (x y : Operand) (ho : op.op = .lookup 81 x y false) (b n : Nat) (f : EF) (t : Nat)
    (hx : a.eval x = .map (some b)) (hy : a.eval y = .int .u16 (t : Int)) (ht : t < 65536) (hS : ∀ w, S w → Mp w b n f) (v : Value) (hv : (f t).getD pcZ = v) : YieldsIf Tryd.prog ops S op v a :=
  .inl ⟨hw, fun w h => by
    have hrun := (hS w h).look ht
    rw [hv] at hrun
    unfold execOp
    simp only [ho, hx, hy]
    simp [hrun, Result.andThen]⟩
end Go.Proofs.YtcgbamkfflcdfaaDoor
/- Numbers that go round, and what of them has come, in plain numbers. No condition beyond those said. -/
namespace Go.Proofs.YtcgbamkfflcdfaaDoor

open Go in
/-- How many of the lowest bits (of 32) are set in a row. -/
def come (bits : Nat) : Nat := Lib.ctz 32 (4294967295 - bits)
theorem not_testBit {bits : Nat} (h : bits < 4294967296) (i : Nat) : (4294967295 - bits).testBit i = (decide (i < 32) && !bits.testBit i) := by
  have := Nat.testBit_two_pow_sub_succ (n := 32) (x := bits) h i
  rw [show (2 : Nat) ^ 32 - (bits + 1) = 4294967295 - bits by omega] at this
  exact this
open Go in
theorem come_spec {bits : Nat} (h : bits < 4294967296) : come bits ≤ 32 ∧ (∀ i, i < come bits → bits.testBit i = true) ∧ (come bits < 32 → bits.testBit (come bits) = false) := by
  unfold come
  by_cases h0 : 4294967295 - bits = 0
  · have hb : bits = 4294967295 := by omega
    subst hb
    refine ⟨by simp [Lib.ctz], fun i hi => ?_, by simp [Lib.ctz]⟩
    have hi : i < 32 := by simpa [Lib.ctz] using hi
    have := Nat.testBit_two_pow_sub_one 32 i
    simpa [hi] using this
  · have e : Lib.ctz 32 (4294967295 - bits) = Lib.ctzFrom 32 (4294967295 - bits) := by simp [Lib.ctz, h0]
    rw [e]
    obtain ⟨m, hm, hk⟩ := Lib.ctzFrom_spec 32 (4294967295 - bits) (by omega) (by omega)
    obtain ⟨c, hc⟩ : ∃ c, c = Lib.ctzFrom 32 (4294967295 - bits) := ⟨_, rfl⟩
    rw [← hc] at hm hk ⊢
    refine ⟨by omega, fun i hi => ?_, fun _ => ?_⟩
    · have h1 := not_testBit h i
      rw [hm, Nat.testBit_two_pow_mul] at h1
      simp [show ¬ i ≥ c by omega, show i < 32 by omega] at h1
      exact h1
    · have h1 := not_testBit h c
      rw [hm, Nat.testBit_two_pow_mul] at h1
      simp [hk] at h1
      exact h1

/-- How much further on b is than a, all the way round. -/
def toI (a b : Nat) : Int := if (b + 65536 - a) % 65536 < 32768 then (((b + 65536 - a) % 65536 : Nat) : Int) else (((b + 65536 - a) % 65536 : Nat) : Int) - 65536
theorem toI_bounds (a b : Nat) : -32768 ≤ toI a b ∧ toI a b ≤ 32767 := by unfold toI; split <;> omega
theorem toI_eq {a b : Nat} (_ha : a < 65536) (hb : b < 65536) (d : Int) (h1 : -32768 ≤ d) (h2 : d ≤ 32767) : toI a b = d ↔ (b : Int) = (a + d) % 65536 := by
  unfold toI
  split <;> omega
theorem toI_add {a : Nat} (ha : a < 65536) (d : Int) (h1 : -32768 ≤ d) (h2 : d ≤ 32767) : toI a (((a + d) % 65536).toNat) = d := by
  rw [toI_eq ha (by omega) d h1 h2]
  omega
theorem toI_self (a : Nat) (_ha : a < 65536) : toI a a = 0 := by unfold toI; rw [if_pos (by omega)]; omega
theorem toI_zero {a b : Nat} (ha : a < 65536) (hb : b < 65536) : toI a b = 0 ↔ a = b := by
  rw [toI_eq ha hb 0 (by omega) (by omega)]
  omega

/-- Has it come? -/
def hasN (next bits s : Nat) : Bool := decide (toI next s < 0) || (decide (0 < toI next s) && decide (toI next s ≤ 32) && bits.testBit (toI next s - 1).toNat)
/-- It has come: the acks behind it; none, if it had already, or is too far on. -/
def noteN (next bits s : Nat) : Option (Nat × Nat) :=
  if hasN next bits s = true ∨ 32 < toI next s then none
  else if toI next s = 0 then some ((s + 1 + come bits) % 65536, bits / 2 ^ (1 + come bits))
  else some (next, bits ||| 2 ^ (toI next s - 1).toNat)
theorem noteN_lt {next bits s x y : Nat} (hn : next < 65536) (hb : bits < 4294967296) (h : noteN next bits s = some (x, y)) : x < 65536 ∧ y < 4294967296 := by
  unfold noteN at h
  split at h
  · cases h
  · rename_i h0
    split at h
    · injection h with h
      injection h with h1 h2
      exact ⟨by omega, by rw [← h2]; exact Nat.lt_of_le_of_lt (Nat.div_le_self _ _) hb⟩
    · injection h with h
      injection h with h1 h2
      subst h1 h2
      refine ⟨hn, ?_⟩
      have hle : ¬ 32 < toI next s := fun h => h0 (.inr h)
      have h3 : (2 : Nat) ^ (toI next s - 1).toNat < 2 ^ 32 := Nat.pow_lt_pow_right (by omega) (by omega)
      exact Nat.or_lt_two_pow (n := 32) hb h3
theorem hasN_next (next bits : Nat) (hn : next < 65536) : hasN next bits next = false := by
  unfold hasN
  rw [toI_self next hn]
  simp
/-- What was noted is had. -/
theorem hasN_noteN {next bits s x y : Nat} (_hn : next < 65536) (hs : s < 65536) (h : noteN next bits s = some (x, y)) : hasN x y s = true := by
  unfold noteN at h
  split at h
  · cases h
  · rename_i h0
    have hle : ¬ 32 < toI next s := fun h => h0 (.inr h)
    have hnot : ¬ hasN next bits s = true := fun h => h0 (.inl h)
    have hge : ¬ toI next s < 0 := by
      intro h1
      exact hnot (by unfold hasN; simp [h1])
    split at h
    · injection h with h
      injection h with h1 h2
      subst h1
      have hc : come bits ≤ 32 ∨ 32 < come bits := by omega
      have hlt : come bits ≤ 32 := by
        unfold come Go.Lib.ctz
        split
        · omega
        · have : ∀ f x, Go.Lib.ctzFrom f x ≤ f := by
            intro f
            induction f with
            | zero => intro x; simp [Go.Lib.ctzFrom]
            | succ f ih => intro x; unfold Go.Lib.ctzFrom; split; omega; have := ih (x / 2); omega
          exact this 32 _
      have h3 : toI ((s + 1 + come bits) % 65536) s = -1 - (come bits : Int) := by
        rw [toI_eq (by omega) hs _ (by omega) (by omega)]
        omega
      unfold hasN
      rw [h3]
      simp only [Bool.or_eq_true, decide_eq_true_eq]
      left
      omega
    · injection h with h
      injection h with h1 h2
      subst h1 h2
      unfold hasN
      rename_i hne
      rw [Nat.testBit_or, Nat.testBit_two_pow_self]
      simp only [Bool.or_true, Bool.and_true, Bool.or_eq_true, Bool.and_eq_true, decide_eq_true_eq]
      right
      omega
theorem come_le (bits : Nat) (h : bits < 4294967296) : come bits ≤ 32 := (come_spec h).1
/-- What was had is had behind it: half the way round. -/
theorem hasN_old {next bits s x y d : Nat} (hn : next < 65536) (hb : bits < 4294967296) (hs : s < 65536) (hd : d < 32000) (h : noteN next bits s = some (x, y)) :
    hasN x y ((next + 65536 - 1 - d) % 65536) = true := by
  unfold noteN at h
  split at h
  · cases h
  · rename_i h0
    have hle : ¬ 32 < toI next s := fun h => h0 (.inr h)
    have hnot : ¬ hasN next bits s = true := fun h => h0 (.inl h)
    have hge : ¬ toI next s < 0 := by
      intro h1
      exact hnot (by unfold hasN; simp [h1])
    have hc := come_le bits hb
    split at h
    · rename_i he
      rw [toI_zero hn hs] at he
      subst he
      injection h with h
      injection h with h1 h2
      subst h1
      have h3 : toI ((next + 1 + come bits) % 65536) ((next + 65536 - 1 - d) % 65536) = -2 - (come bits : Int) - d := by
        rw [toI_eq (by omega) (by omega) _ (by omega) (by omega)]
        omega
      unfold hasN
      rw [h3]
      simp only [Bool.or_eq_true, decide_eq_true_eq]
      left
      omega
    · injection h with h
      injection h with h1 h2
      subst h1
      have h3 : toI next ((next + 65536 - 1 - d) % 65536) = -1 - (d : Int) := by
        rw [toI_eq (by omega) (by omega) _ (by omega) (by omega)]
        omega
      unfold hasN
      rw [h3]
      simp only [Bool.or_eq_true, decide_eq_true_eq]
      left
      omega
theorem hasN_back {next bits d : Nat} (hn : next < 65536) (hd : d < 32000) : hasN next bits ((next + 65536 - 1 - d) % 65536) = true := by
  have h3 : toI next ((next + 65536 - 1 - d) % 65536) = -1 - (d : Int) := by
    rw [toI_eq (by omega) (by omega) _ (by omega) (by omega)]
    omega
  unfold hasN
  rw [h3]
  simp only [Bool.or_eq_true, decide_eq_true_eq]
  left
  omega
theorem toI_far {next d : Nat} (hn : next < 65536) (hd : d < 32000) : toI next ((next + 33 + d) % 65536) = 33 + d := by
  rw [toI_eq (by omega) (by omega) _ (by omega) (by omega)]
  omega
theorem hasN_far {next bits d : Nat} (hn : next < 65536) (hd : d < 32000) : hasN next bits ((next + 33 + d) % 65536) = false := by
  unfold hasN
  rw [toI_far hn hd]
  simp only [Bool.or_eq_false_iff, Bool.and_eq_false_iff, decide_eq_false_iff_not]
  exact ⟨by omega, .inl (.inr (by omega))⟩
theorem noteN_far {next bits d : Nat} (hn : next < 65536) (hd : d < 32000) : noteN next bits ((next + 33 + d) % 65536) = none := by
  unfold noteN
  rw [if_pos (.inr (by rw [toI_far hn hd]; omega))]
theorem noteN_had {next bits s : Nat} (h : hasN next bits s = true) : noteN next bits s = none := by
  unfold noteN
  rw [if_pos (.inl h)]

/-- The bits in a row of flags, and back. -/
def flags (bits : Nat) : List Bool := (List.range 32).map bits.testBit
@[simp] theorem flags_length (bits : Nat) : (flags bits).length = 32 := by simp [flags]
theorem flags_get (bits k : Nat) (h : k < 32) : (flags bits)[k]? = some (bits.testBit k) := by simp [flags, h]
theorem half_bit (bits k : Nat) : bits / 2 ^ k = 2 * (bits / 2 ^ (k + 1)) + (if bits.testBit k = true then 1 else 0) := by
  rw [Nat.testBit_eq_decide_div_mod_eq, Nat.pow_succ, ← Nat.div_div_eq_div_mul]
  simp only [decide_eq_true_eq]
  split <;> omega
theorem testBit_half (bits j k : Nat) : (bits / 2 ^ j).testBit k = bits.testBit (j + k) := by
  rw [Nat.testBit_div_two_pow, Nat.add_comm]

/-- How many of the first k bits are set. -/
def cntR (bits : Nat) : Nat → Nat
  | 0 => 0
  | k + 1 => cntR bits k + (if bits.testBit k = true then 1 else 0)
theorem cntR_le (bits k : Nat) : cntR bits k ≤ k := by
  induction k with
  | zero => simp [cntR]
  | succ k ih => unfold cntR; split <;> omega
theorem cntR_add (bits a b : Nat) : cntR bits (a + b) = cntR bits a + cntR (bits / 2 ^ a) b := by
  induction b with
  | zero => simp [cntR]
  | succ b ih => rw [← Nat.add_assoc, cntR, cntR, ih, testBit_half]; omega
theorem cntR_mod (bits k : Nat) : ∀ j, j ≤ k → cntR (bits % 2 ^ k) j = cntR bits j := by
  intro j
  induction j with
  | zero => intro _; rfl
  | succ j ih =>
    intro h
    rw [cntR, cntR, ih (by omega), Nat.testBit_mod_two_pow]
    simp [show j < k by omega]
theorem cntR_bytes (x : Nat) (_h : x < 4294967296) : cntR x 32 = cntR (x / 16777216) 8 + cntR (x / 65536 % 256) 8 + cntR (x / 256 % 256) 8 + cntR (x % 256) 8 := by
  rw [show (32 : Nat) = 8 + (8 + (8 + 8)) from rfl, cntR_add, cntR_add, cntR_add, show (256 : Nat) = 2 ^ 8 from rfl, cntR_mod _ 8 8 (by omega), cntR_mod _ 8 8 (by omega), cntR_mod _ 8 8 (by omega)]
  rw [Nat.div_div_eq_div_mul, Nat.div_div_eq_div_mul]
  simp only [← Nat.pow_add]
  simp only [show (16777216 : Nat) = 2 ^ 24 from rfl, show (65536 : Nat) = 2 ^ 16 from rfl]
  simp only [show 8 + 8 = 16 from rfl, show 8 + 16 = 24 from rfl]
  omega

/-- Of numbers from first on, those of L have come. -/
def Came (first : Nat) (L : List Nat) (x y : Nat) : Prop :=
  ∃ m, m ≤ 33 ∧ x = (first + m) % 65536 ∧ y < 4294967296 ∧ (∀ k, k < m → k ∈ L) ∧ m ∉ L ∧ ∀ j, y.testBit j = decide (m + 1 + j ∈ L)
theorem Came.none (first : Nat) (h : first < 65536) : Came first [] first 0 := ⟨0, by omega, by omega, by omega, fun k h => by omega, by simp, fun j => by simp⟩
theorem Came.note {first : Nat} {L : List Nat} {x y : Nat} (_hf : first < 65536) (h : Came first L x y) (hL : ∀ k ∈ L, k < 33) {k : Nat} (hk : k < 33) (hn : k ∉ L) :
    ∃ x' y', noteN x y ((first + k) % 65536) = some (x', y') ∧ Came first (k :: L) x' y' := by
  obtain ⟨m, hm, rfl, hy, hall, hmn, hbit⟩ := h
  have hmk : m ≤ k := by
    rcases Nat.lt_or_ge k m with h | h
    · exact absurd (hall k h) hn
    · exact h
  have hto : toI ((first + m) % 65536) ((first + k) % 65536) = (k : Int) - m := by
    rw [toI_eq (by omega) (by omega) _ (by omega) (by omega)]
    omega
  obtain ⟨c1, c2, c3⟩ := come_spec hy
  by_cases he : m = k
  · subst he
    refine ⟨((first + m) % 65536 + 1 + come y) % 65536, y / 2 ^ (1 + come y), ?_, ?_⟩
    · unfold noteN
      have hno : hasN ((first + m) % 65536) y ((first + m) % 65536) = false := hasN_next _ _ (by omega)
      rw [if_neg (by rw [hno, hto]; rintro (h | h); cases h; omega), if_pos (by omega)]
    · have hpre : ∀ i, i < come y → m + 1 + i ∈ L := fun i hi => by
        have := hbit i
        rw [c2 i hi] at this
        simpa using this.symm
      have hend : m + 1 + come y ∉ L := by
        intro hin
        have h33 := hL _ hin
        have := hbit (come y)
        rw [c3 (by omega)] at this
        simp [hin] at this
      refine ⟨m + 1 + come y, ?_, by omega, ?_, ?_, ?_, ?_⟩
      · rcases Nat.eq_zero_or_pos (come y) with h0 | h0
        · omega
        · have := hL _ (hpre (come y - 1) (by omega))
          omega
      · exact Nat.lt_of_le_of_lt (Nat.div_le_self _ _) hy
      · intro i hi
        rcases Nat.lt_or_ge i m with h1 | h1
        · exact List.mem_cons_of_mem _ (hall i h1)
        · rcases Nat.lt_or_ge m i with h2 | h2
          · have := hpre (i - (m + 1)) (by omega)
            rw [show m + 1 + (i - (m + 1)) = i by omega] at this
            exact List.mem_cons_of_mem _ this
          · have : i = m := by omega
            subst this
            simp
      · intro hin
        rcases List.mem_cons.1 hin with h1 | h1
        · omega
        · exact hend h1
      · intro j
        rw [testBit_half, hbit]
        rw [show m + 1 + (1 + come y + j) = m + 1 + come y + 1 + j by omega]
        simp only [List.mem_cons]
        rw [decide_eq_decide]
        constructor
        · exact fun h => .inr h
        · rintro (h | h)
          · omega
          · exact h
  · refine ⟨(first + m) % 65536, y ||| 2 ^ (toI ((first + m) % 65536) ((first + k) % 65536) - 1).toNat, ?_, ?_⟩
    · unfold noteN
      have hno : hasN ((first + m) % 65536) y ((first + k) % 65536) = false := by
        unfold hasN
        rw [hto]
        have hb := hbit (k - m - 1)
        rw [show m + 1 + (k - m - 1) = k by omega] at hb
        simp only [hn, decide_false] at hb
        rw [show ((k : Int) - m - 1).toNat = k - m - 1 by omega, hb]
        simp
        omega
      rw [if_neg (by rw [hno, hto]; rintro (h | h); cases h; omega), if_neg (by omega)]
    · refine ⟨m, hm, rfl, ?_, fun i hi => List.mem_cons_of_mem _ (hall i hi), ?_, ?_⟩
      · refine Nat.or_lt_two_pow (n := 32) hy (Nat.pow_lt_pow_right (by omega) ?_)
        rw [hto]
        omega
      · intro hin
        rcases List.mem_cons.1 hin with h1 | h1
        · exact he h1
        · exact hmn h1
      · intro j
        rw [hto, Nat.testBit_or, hbit, Nat.testBit_two_pow, Bool.eq_iff_iff]
        simp only [Bool.or_eq_true, decide_eq_true_eq, List.mem_cons]
        constructor
        · rintro (h | h)
          · exact .inr h
          · left; omega
        · rintro (h | h)
          · right; omega
          · exact .inl h
theorem Came.all {first : Nat} {L : List Nat} {x y : Nat} (h : Came first L x y) (hL : ∀ k ∈ L, k < 33) (hall : ∀ k, k < 33 → k ∈ L) : x = (first + 33) % 65536 ∧ y = 0 := by
  obtain ⟨m, hm, rfl, hy, _, hmn, hbit⟩ := h
  have hm33 : m = 33 := by
    rcases Nat.lt_or_ge m 33 with h | h
    · exact absurd (hall m h) hmn
    · omega
  subst hm33
  refine ⟨rfl, Nat.eq_of_testBit_eq fun i => ?_⟩
  rw [hbit, Nat.zero_testBit]
  simp only [decide_eq_false_iff_not]
  intro hin
  have := hL _ hin
  omega
end Go.Proofs.YtcgbamkfflcdfaaDoor
/- (Seq).To, Add, Less: the plain numbers that go round. Conditions: the numbers fit 16 bits. -/
namespace Go.Proofs.YtcgbamkfflcdfaaDoor
open Go.RowKit

theorem wrap_i16' (n : Int) : IntKind.i16.wrap n = (n + 32768) % 65536 - 32768 := by
  simp [IntKind.wrap, IntKind.bits, IntKind.signed]
  split <;> omega
theorem to_wrap {a b : Nat} (ha : a < 65536) (hb : b < 65536) : IntKind.u16.wrap ((b : Int) - (a : Int)) = (((b + 65536 - a) % 65536 : Nat) : Int) := by
  rw [IntKind.wrap_u16]; omega
theorem to_wrap2 {a b : Nat} (_ha : a < 65536) (_hb : b < 65536) : IntKind.i16.wrap (((b + 65536 - a) % 65536 : Nat) : Int) = toI a b := by
  rw [wrap_i16']
  unfold toI
  split <;> omega
set_option maxHeartbeats 1000000 in
set_option maxRecDepth 20000 in
theorem To_calls (a b : Nat) (w : World) (ha : a < 65536) (hb : b < 65536) :
    Calls Tryd.prog 70 #[.int .u16 a, .int .u16 b] w fun e w' => e = .returned (.int .i64 (toI a b)) ∧ w' = w := by
  have h1 := to_wrap ha hb
  have h2 := to_wrap2 ha hb
  have hl := toI_bounds a b
  obtain ⟨D, hD⟩ : ∃ D, D = (b + 65536 - a) % 65536 := ⟨_, rfl⟩
  obtain ⟨r, hr⟩ : ∃ r, r = toI a b := ⟨_, rfl⟩
  rw [← hD] at h1 h2
  rw [← hr] at h2 hl
  rw [← hr]
  clear hD hr
  obtain ⟨hl1, hl2⟩ := hl
  go_enter Tryd.func70, Tryd.ntmps70
  go_wp2_with fail
  go_ret
  exact ⟨rfl, rfl⟩
set_option maxHeartbeats 1000000 in
set_option maxRecDepth 20000 in
theorem Add_calls (a : Nat) (n : Int) (r : Nat) (w : World) (hr : (r : Int) = ((a : Int) + n) % 65536) :
    Calls Tryd.prog 68 #[.int .u16 a, .int .i64 n] w fun e w' => e = .returned (.int .u16 r) ∧ w' = w := by
  have h1 : IntKind.u16.wrap ((a : Int) + IntKind.u16.wrap n) = (r : Int) := by
    rw [IntKind.wrap_u16, IntKind.wrap_u16, hr]; omega
  have H := Lib.hid h1
  clear h1 hr
  go_enter Tryd.func68, Tryd.ntmps68
  go_wp2_with fail
  go_ret
  exact ⟨by rw [← H.out]; rfl, rfl⟩
end Go.Proofs.YtcgbamkfflcdfaaDoor
/- room of a link: where nothing flies; where something does. Conditions: those said. -/
namespace Go.Proofs.YtcgbamkfflcdfaaDoor
open Go.RowKit
set_option linter.unusedVariables false

set_option maxHeartbeats 2000000 in
set_option maxRecDepth 20000 in
theorem room_none (g bm : Nat) (L : Lk) (vw : Value) (A : Option Addr) (c : Nat) (vh : Value) (w : World) (q : LkB w g bm L vw (.slice A 0 c) vh) :
    Calls Tryd.prog 66 #[.pointer (some ⟨g, 0, none⟩)] w fun e w' => e = .returned (.bool true) ∧ Below w.heap.size w w' := by
  have c2 := q.c2
  have HB := Lib.hid (Below.refl w.heap.size w)
  clear q
  go_enter Tryd.func66, Tryd.ntmps66
  go_wp2_with fail
  go_quiet (fail)
  go_wp2
  go_ret
  exact ⟨rfl, below_drewN HB.out _⟩
set_option maxHeartbeats 4000000 in
set_option maxRecDepth 20000 in
theorem room_some (g bm : Nat) (L : Lk) (vw : Value) (b off n c s : Nat) (vh : Value) (w : World) (q : LkB w g bm L vw (.slice (some ⟨b, off, none⟩) n c) vh) (hn : 0 < n) (hnc : n ≤ c) (hc : w.cell? ⟨b, off + 3, none⟩ = some (.int .u16 (s : Int))) (hs : s < 65536) (hx : L.nx < 65536) :
    Calls Tryd.prog 66 #[.pointer (some ⟨g, 0, none⟩)] w fun e w' => e = .returned (.bool (decide (toI s L.nx < 32))) ∧ Below w.heap.size w w' := by
  have c2 := q.c2
  have c3 := q.c3
  have hT := To_calls s L.nx
  obtain ⟨r, hr⟩ : ∃ r, r = toI s L.nx := ⟨_, rfl⟩
  rw [← hr] at hT
  rw [← hr]
  clear hr q
  have e0 : ((n : Int) == 0) = false := by simp; omega
  have e1 : decide ((n : Int) = 0) = false := by simp; omega
  have e2 : (0 : Int) < (n : Int) := by omega
  have HB := Lib.hid (Below.refl w.heap.size w)
  go_enter Tryd.func66, Tryd.ntmps66
  go_wp2_with fail
  go_quiet ((go_at_call 70; exact Calls.quiet_of_same (hT _ hs hx)))
  go_wp2
  go_ret
  exact ⟨rfl, below_drewN HB.out _⟩
end Go.Proofs.YtcgbamkfflcdfaaDoor
/- Steps of start's drawn region. No condition: plain lemmas. -/
namespace Go.Proofs.YtcgbamkfflcdfaaDoor
open Go.RowKit
set_option linter.unusedVariables false

section
variable {ops : Array Oper} {S : World → Prop} {op : Oper} {a : Act}
theorem yk_ldW (hw : Region.wanted op (yielded ops a.tmps) = true) (x : Operand) (ho : op.op = .load 82 x) (p : Addr) (v : Value) (hx : a.eval x = .pointer (some p)) (hS : ∀ w, S w → w.cell? p = some v) : YieldsIf Tryd.prog ops S op v a :=
  .inl ⟨hw, fun w h => by
    have hc := hS w h
    unfold execOp
    simp only [ho, hx]
    go_simp⟩
theorem yk_ldF (hw : Region.wanted op (yielded ops a.tmps) = true) (x : Operand) (ho : op.op = .load 83 x) (p : Addr) (v : Value) (hx : a.eval x = .pointer (some p)) (hS : ∀ w, S w → w.cell? p = some v) : YieldsIf Tryd.prog ops S op v a :=
  .inl ⟨hw, fun w h => by
    have hc := hS w h
    unfold execOp
    simp only [ho, hx]
    go_simp⟩
theorem yk_ldQ (hw : Region.wanted op (yielded ops a.tmps) = true) (x : Operand) (ho : op.op = .load 42 x) (p : Addr) (v : Value) (hx : a.eval x = .pointer (some p)) (hS : ∀ w, S w → w.cell? p = some v) : YieldsIf Tryd.prog ops S op v a :=
  .inl ⟨hw, fun w h => by
    have hc := hS w h
    unfold execOp
    simp only [ho, hx]
    go_simp⟩
theorem yk_ldPc (hw : Region.wanted op (yielded ops a.tmps) = true) (x : Operand) (ho : op.op = .load 96 x) (b : Nat) (f l : Bool) (v : Value) (hx : a.eval x = .pointer (some ⟨b, 0, none⟩)) (hS : ∀ w, S w → w.cell? ⟨b, 0, none⟩ = some (.bool f) ∧ w.cell? ⟨b, 1, none⟩ = some (.bool l) ∧ w.cell? ⟨b, 2, none⟩ = some v) : YieldsIf Tryd.prog ops S op (.agg #[.bool f, .bool l, v]) a :=
  .inl ⟨hw, fun w h => by
    obtain ⟨c0, c1, c2⟩ := hS w h
    unfold execOp
    simp only [ho, hx]
    go_simp⟩
variable {w : World} {K : Act → World → Prop} {Q : Exit → Act → World → Prop}
theorem wp_bsF (x : Operand) (ho : op.op = .buildSlice 83 1 #[(0, x)]) (y : Fl) (hx : a.eval x = .agg y.cells.toArray)
    (h : K (a.put op.dst (.slice (some ⟨w.heap.size, 0, none⟩) 1 1)) (w.alloc (.cells y.cells.toArray 98))) : op.wp Tryd.prog a w K Q := by
  have hr : (Instr.buildSlice 83 1 #[(0, .agg y.cells.toArray)]).run Tryd.prog w = .ok (.slice (some ⟨w.heap.size, 0, none⟩) 1 1) (w.alloc (.cells y.cells.toArray 98)) := by kernel_rfl
  unfold Oper.wp execOp
  simp only [ho, List.map_toArray, List.map_cons, List.map_nil, hx, Sem.run_bind, hr, Result.andThen_ok, Sem.run_pure]
  exact h
theorem flight_info : (Tryd.prog.info? 98).map (fun i => (i.zero, i.size, i.bytes)) = some (some (.agg #[.bool false, .bool false, .slice none 0 0, .int .u16 0, .bool false, .int .i64 0]), 6, 48) := by kernel_rfl
theorem wp_appF (s x : Operand) (ho : op.op = .call { callee := .builtin .append, args := #[s, x], argTypes := #[83, 83] })
    (B : Nat) (v : Value) (xs : List Fl) (hs : a.eval s = v) (hown : RowF w B v xs)
    (b : Nat) (A : Option Addr) (m c : Nat) (ys : List Fl) (hx : a.eval x = .slice A m c) (hr : Sl w b A (fvs ys)) (hm : ys.length = m)
    (hlen : xs.length + m ≤ 1000000) (hbase : B ≤ w.heap.size)
    (h : ∀ v' w', RowF w' B v' (xs ++ ys) → Mod (fun i => v.ownBlock = some i) w w' → (v'.ownBlock = v.ownBlock ∨ v'.ownBlock = some w.heap.size) → K (a.put op.dst v') w') : op.wp Tryd.prog a w K Q := by
  obtain ⟨i0, hi0, hz0, hz1, hz2⟩ := info_parts flight_info
  refine wp_append_sl (P := Tryd.prog) w s x _ ho B 98 i0 _ 6 48 Tryd.underlying83 hi0 hz0 hz1 hz2 rfl (by omega) v xs.length (fvs xs) hs hown b A m c (fvs ys) hx hr (by rw [fvs_length, hm]) (fun hA => by have := Sl.none_len hr (m := m * 6) (by rw [fvs_length, hm]) hA; omega) (fvs_one ys)
    (by simp only [maxLen]; omega) (by omega) hbase ?_
  intro v' w' h1 h2 h3
  exact h v' w' (by unfold RowF; rw [List.length_append, hm, fvs_append]; exact h1) (Mod.of_grown h2) h3
theorem wp_stF (x y : Operand) (ho : op.op = .store 83 x y) (p : Addr) (A : Option Addr) (n c : Nat) (hx : a.eval x = .pointer (some p)) (hy : a.eval y = .slice A n c) (old : Value) (hc : w.cell? p = some old) (hf : w.frozen? p = false)
    (h : K (a.put op.dst undef) (w.setCell p (.slice A n c))) : op.wp Tryd.prog a w K Q := by
  unfold Oper.wp execOp
  simp only [ho, hx, hy]
  go_simp
  exact h
end
theorem sl_newF (w : World) (vs : List Value) (t : TypeId) : Sl (w.alloc (.cells vs.toArray t)) w.heap.size (some ⟨w.heap.size, 0, none⟩) vs := fun _ => ⟨0, rfl, fun j u hu => by
  rw [cell_of_row _ _ _ _ _ _ (heap_alloc_new w _)]
  simpa using hu⟩
/-- Whether one more may fly. -/
def roomB (nx : Nat) : List Fl → Bool
  | [] => true
  | x :: _ => decide (toI x.seq nx < 32)
/-- What start leaves: the next number, what waits, what flies. -/
def startN : List PV → Nat → List Fl → Nat × List PV × List Fl
  | [], nx, xs => (nx, [], xs)
  | x :: ws, nx, xs => if roomB nx xs then startN ws ((nx + 1) % 65536) (xs ++ [⟨x, nx, false, 0⟩]) else (nx, x :: ws, xs)
/-- How a link lies, with what waits and what flies. -/
structure LS (w : World) (B g bm : Nat) (L : Lk) (vw vf vh : Value) (ws : List PV) (xs : List Fl) : Prop where
  q : LkB w g bm L vw vf vh
  rp : RowP 96 w B vw ws
  rf : RowF w B vf xs
  hB : B ≤ w.heap.size
theorem rows_apartT {w : World} {B B' n n' sz sz' : Nat} {e e' : TypeId} {v v' : Value} {xs ys : List Value} (h : w.ownsRow B e sz v n xs) (h' : w.ownsRow B' e' sz' v' n' ys) (he : e ≠ e') : ∀ k, v.ownBlock = some k → v'.ownBlock ≠ some k := fun k hk hk' => by
  rcases h.2 with ⟨rfl, _⟩ | ⟨g, cap, cur, rfl, _, hh, _⟩
  · simp [Value.ownBlock] at hk
  · have : g = k := by simpa [Value.ownBlock] using hk
    subst this
    exact row_apart h' hh he hk'
namespace LS
variable {w w' : World} {B g bm : Nat} {L : Lk} {vw vf vh : Value} {ws : List PV} {xs : List Fl}
theorem ext (q : LS w B g bm L vw vf vh ws xs) (hm : Below w.heap.size w w') : LS w' B g bm L vw vf vh ws xs := ⟨q.q.ext hm, ownsP_ext q.rp hm, ownsP_ext q.rf hm, Nat.le_trans q.hB hm.size⟩
end LS
theorem row_first {e : TypeId} {w : World} {B : Nat} {v : Value} {x : PV} {xs : List PV} (h : RowP e w B v (x :: xs)) : ∃ g1 k1, v = .slice (some ⟨g1, 0, none⟩) (xs.length + 1) k1 ∧ xs.length + 1 ≤ k1 ∧ B ≤ g1 ∧ g1 < w.heap.size ∧ v.ownBlock = some g1 ∧ (w.cell? ⟨g1, 0, none⟩ = some (.bool x.p.first) ∧ w.cell? ⟨g1, 1, none⟩ = some (.bool x.p.last) ∧ w.cell? ⟨g1, 2, none⟩ = some (.slice x.A x.p.data.length x.c)) := by
  have h0 := h
  rcases h.2 with ⟨_, hn⟩ | ⟨g, cap, cur, rfl, hg, hh, hnc, hcm, hcs, hct⟩
  · simp at hn
  · have hc := fun j u hu => h0.cells (g := g) rfl j u hu
    refine ⟨g, cap, rfl, hnc, hg, (Array.getElem?_eq_some_iff.1 hh).1, rfl, ?_, ?_, ?_⟩
    · have := hc 0 _ rfl
      simpa [Addr.add_lit] using this
    · have := hc 1 _ rfl
      simpa [Addr.add_lit] using this
    · have := hc 2 _ rfl
      simpa [Addr.add_lit] using this
theorem row_cells {e : TypeId} {w : World} {B g1 m k1 : Nat} {x : PV} {xs : List PV} (h : w.ownsRow B e 3 (.slice (some ⟨g1, 0, none⟩) m k1) (xs.length + 1) (pvs (x :: xs))) : w.cell? ⟨g1, 0, none⟩ = some (.bool x.p.first) ∧ w.cell? ⟨g1, 1, none⟩ = some (.bool x.p.last) ∧ w.cell? ⟨g1, 2, none⟩ = some (.slice x.A x.p.data.length x.c) := by
  obtain ⟨g, k, hv, -, -, -, -, hc⟩ := row_first h
  injection hv with hv
  injection hv with hv
  injection hv with hv
  subst hv
  exact hc
theorem sl_newF1 (w : World) (y : Fl) : Sl (w.alloc (.cells y.cells.toArray 98)) w.heap.size (some ⟨w.heap.size, 0, none⟩) (fvs [y]) := by
  rw [fvs_cons, show fvs [] = [] from rfl, List.append_nil]
  exact sl_newF _ _ _
/-- room, of a link that lies so. -/
theorem room_any (B g bm : Nat) (L : Lk) (vw vf vh : Value) (ws : List PV) (xs : List Fl) (w : World) (q : LS w B g bm L vw vf vh ws xs) (hx : L.nx < 65536) (hs : ∀ x ∈ xs, x.seq < 65536) :
    Calls Tryd.prog 66 #[.pointer (some ⟨g, 0, none⟩)] w fun e w' => e = .returned (.bool (roomB L.nx xs)) ∧ Below w.heap.size w w' := by
  obtain ⟨A, c, b, rfl, hnc, hcm, hA, hBb, hsl, hk⟩ := ownsP_sl q.rf
  cases xs with
  | nil => exact room_none g bm L vw A c vh w q.q
  | cons x l =>
    obtain ⟨off, rfl, hc⟩ := hsl (by rw [fvs_cons]; simp)
    refine room_some g bm L vw b off _ c x.seq vh w q.q (by simp) hnc (hc 3 _ ?_) (hs x (by simp)) hx
    rw [fvs_cons]
    rfl
end Go.Proofs.YtcgbamkfflcdfaaDoor
/- start of a link. Conditions: those said. -/
namespace Go.Proofs.YtcgbamkfflcdfaaDoor
open Go.RowKit
set_option linter.unusedVariables false

set_option maxHeartbeats 16000000 in
set_option maxRecDepth 40000 in
theorem start_calls (B g bm : Nat) (L : Lk) (vw vf vh : Value) (ws : List PV) (xs : List Fl) (w : World) (q : LS w B g bm L vw vf vh ws xs) (hx : L.nx < 65536) (hs : ∀ x ∈ xs, x.seq < 65536) (hl : ws.length + xs.length ≤ 1000000) :
    Calls Tryd.prog 34 #[.pointer (some ⟨g, 0, none⟩)] w fun e w' => ∃ vw' vf', e = .returned (.tuple #[]) ∧ LS w' B g bm { L with nx := (startN ws L.nx xs).1 } vw' vf' vh (startN ws L.nx xs).2.1 (startN ws L.nx xs).2.2 ∧ vw'.ownBlock = vw.ownBlock ∧ (∀ i, vf'.ownBlock = some i → vf.ownBlock = some i ∨ w.heap.size ≤ i) ∧ Mod (fun i => i = g ∨ vw.ownBlock = some i ∨ vf.ownBlock = some i) w w' := by
  obtain ⟨S, hS⟩ : ∃ S : Nat → Prop, S = fun i => i = g ∨ vw.ownBlock = some i ∨ vf.ownBlock = some i := ⟨_, rfl⟩
  rw [← hS]
  have HS := Lib.hid hS
  obtain ⟨R, hR⟩ : ∃ R, R = startN ws L.nx xs := ⟨_, rfl⟩
  rw [← hR]
  have hmm : Mod S w w := (Mod.of_below (Below.refl w.heap.size w)).mono (fun i hi h => absurd hi (by omega))
  go_enter Tryd.func34, Tryd.ntmps34
  go_wp2_with fail
  go_loopg [2] ws.length (fun k _ wr => ∃ (nx : Nat) (vw' vf' : Value) (ws' : List PV) (xs' : List Fl), LS wr B g bm { L with nx := nx } vw' vf' vh ws' xs' ∧ Hid (nx < 65536 ∧ (∀ x ∈ xs', x.seq < 65536) ∧ ws'.length + xs'.length ≤ 1000000 ∧ ws'.length = k ∧ R = startN ws' nx xs' ∧ vw'.ownBlock = vw.ownBlock ∧ (∀ i, vf'.ownBlock = some i → vf.ownBlock = some i ∨ w.heap.size ≤ i)) ∧ Mod S w wr)
  case atStart => exact ⟨L.nx, vw, vf, ws, xs, q, Lib.hid ⟨hx, hs, hl, rfl, hR, rfl, fun i h => .inl h⟩, hmm⟩
  case round =>
    clear hmm q hx hs hl hR hS
    obtain ⟨nx, vw', vf', ws', xs', q, hh, hm⟩ := hrel
    cases ws' with
    | nil =>
      obtain ⟨A1, k1, b1, rfl, -⟩ := ownsP_sl q.rp
      have c1 := q.q.c1
      have HQ := Lib.hid q
      have HM := Lib.hid hm
      clear q hm
      go_wp2_with fail
      go_end0
      obtain ⟨g1, g2, g3, g4, g5, g6, g7⟩ := hh.out
      have HR : R = (nx, [], xs') := g5
      refine ⟨_, _, rfl, ?_, g6, g7, HM.out⟩
      rw [HR]
      exact HQ.out
    | cons x ws2 =>
      obtain ⟨n1, hn1⟩ : ∃ n1, n1 = ws2.length := ⟨_, rfl⟩
      obtain ⟨b1, k1, hve, hk1, hb1, hbl, hob, d0, d1, d2⟩ := row_first q.rp
      rw [← hn1] at hve hk1
      subst hve
      have c1 := q.q.c1
      have e1 : (0 : Int) < ((n1 + 1 : Nat) : Int) := by omega
      have hroom := fun W h => room_any B g bm { L with nx := nx } (.slice (some ⟨b1, 0, none⟩) (n1 + 1) k1) vf' vh (x :: ws2) xs' W h hh.out.1 hh.out.2.1
      obtain ⟨z, hz⟩ : ∃ z, z = roomB nx xs' := ⟨_, rfl⟩
      simp only at hroom
      rw [← hz] at hroom
      have HZ := Lib.hid hz
      have HM := Lib.hid hm
      clear hm hz
      go_wp2_with fail
      refine (hroom _ q).mono ?_
      rintro e w2 ⟨rfl, h2⟩
      cases z with
      | false =>
        have HQ := Lib.hid (q.ext h2)
        have HM2 := Lib.hid (HM.out.trans (Mod.of_below h2) (fun i hi h => h) (fun i hi h => absurd hi (by have := HM.out.size; omega)))
        clear q h2 hroom d0 d1 d2 c1
        go_wp2_with fail
        go_end0
        obtain ⟨g1, g2, g3, g4, g5, g6, g7⟩ := hh.out
        have HR : R = (nx, x :: ws2, xs') := by
          rw [g5, startN, ← HZ.out]
          rfl
        refine ⟨_, _, rfl, ?_, g6, g7, HM2.out⟩
        rw [HR]
        exact HQ.out
      | true =>
        obtain ⟨qq, rp, rf, hB⟩ := q.ext h2
        have e5 : (x :: ws2).length = n1 + 1 := by rw [hn1]; rfl
        have rp2 : w2.ownsRow B 96 3 (.slice (some ⟨b1, 0, none⟩) (n1 + 1) k1) (x :: ws2).length (pvs (x :: ws2)) := rp
        rw [e5] at rp2
        replace rp := rp2
        clear e5 rp2
        have hmw : Mod (fun i => i = g ∨ vf'.ownBlock = some i) w2 w2 := (Mod.of_below (Below.refl w2.heap.size w2)).mono (fun i hi h => absurd hi (by omega))
        have HM2 := Lib.hid (HM.out.trans (Mod.of_below h2) (S := S) (fun i hi h => h) (fun i hi h => absurd hi (by have := HM.out.size; omega)))
        have hb2 : b1 < w2.heap.size := by have := h2.size; omega
        clear q h2 hroom d0 d1 d2 c1 hbl
        go_wp2_with fail
        refine wp_region_E (fun j => j == 20) (fun w9 => LkB w9 g bm { L with nx := nx } (.slice (some ⟨b1, 0, none⟩) (n1 + 1) k1) vf' vh ∧ w9.ownsRow B 96 3 (.slice (some ⟨b1, 0, none⟩) (n1 + 1) k1) (n1 + 1) (pvs (x :: ws2))) (by kernel_rfl) ?_ (fun hHeld => ?_)
        · exact (by exact ⟨qq, rp⟩)
        obtain ⟨wd1', hwd⟩ : ∃ wd1', wd1' = World.drew w2 := ⟨_, rfl⟩
        have h9 : Below w2.heap.size w2 wd1' := by rw [hwd]; exact below_drew (Below.refl _ _)
        rw [← hwd] at hHeld ⊢
        clear hwd
        replace hmw := hmw.trans (Mod.of_below h9) (fun i hi h => h) (fun i hi h => absurd hi (by have := hmw.size; omega))
        replace qq := qq.ext h9
        replace rp := ownsP_ext rp h9
        replace rf := ownsP_ext rf h9
        replace hB := Nat.le_trans hB h9.size
        clear h9
        refine wpAnyE_take (i := 0) (by simp only [List.getElem?_toArray]; rfl) (by kernel_rfl) (by kernel_rfl) (by kernel_rfl) (by kernel_rfl) (by kernel_rfl) (by exact fun _ _ _ h => h) (by exact yk (.pointer (some ⟨g, 0, none⟩)) (by kernel_rfl) (fun _ => by kernel_rfl)) hHeld ?_
        refine wpAnyE_take (i := 1) (by simp only [List.getElem?_toArray]; rfl) (by kernel_rfl) (by kernel_rfl) (by kernel_rfl) (by kernel_rfl) (by kernel_rfl) (by exact fun _ _ _ h => h) (by exact yk (.pointer (some ⟨g, 0, none⟩)) (by kernel_rfl) (fun _ => by kernel_rfl)) hHeld ?_
        refine wpAnyE_take (i := 2) (by simp only [List.getElem?_toArray]; rfl) (by kernel_rfl) (by kernel_rfl) (by kernel_rfl) (by kernel_rfl) (by kernel_rfl) (by exact fun _ _ _ h => h) (by exact yk (.pointer (some ⟨g, 0, none⟩)) (by kernel_rfl) (fun _ => by kernel_rfl)) hHeld ?_
        refine wpAnyE_take (i := 3) (by simp only [List.getElem?_toArray]; rfl) (by kernel_rfl) (by kernel_rfl) (by kernel_rfl) (by kernel_rfl) (by kernel_rfl) (by exact fun _ _ _ h => h) (by exact yk (.pointer (some ⟨g, 2, none⟩)) (by kernel_rfl) (fun _ => by kernel_rfl)) hHeld ?_
        refine wpAnyE_take (i := 4) (by simp only [List.getElem?_toArray]; rfl) (by kernel_rfl) (by kernel_rfl) (by kernel_rfl) (by kernel_rfl) (by kernel_rfl) (by exact fun _ _ _ h => h) (by exact yk_ldF (by kernel_rfl) (.tmp 15) rfl ⟨g, 2, none⟩ vf' (by kernel_rfl) (fun w hh => hh.1.c2)) hHeld ?_
        refine wpAnyE_take (i := 5) (by simp only [List.getElem?_toArray]; rfl) (by kernel_rfl) (by kernel_rfl) (by kernel_rfl) (by kernel_rfl) (by kernel_rfl) (by exact fun _ _ _ h => h) (by exact yk (.pointer (some ⟨g, 0, none⟩)) (by kernel_rfl) (fun _ => by kernel_rfl)) hHeld ?_
        refine wpAnyE_take (i := 6) (by simp only [List.getElem?_toArray]; rfl) (by kernel_rfl) (by kernel_rfl) (by kernel_rfl) (by kernel_rfl) (by kernel_rfl) (by exact fun _ _ _ h => h) (by exact yk (.pointer (some ⟨g, 0, none⟩)) (by kernel_rfl) (fun _ => by kernel_rfl)) hHeld ?_
        refine wpAnyE_take (i := 7) (by simp only [List.getElem?_toArray]; rfl) (by kernel_rfl) (by kernel_rfl) (by kernel_rfl) (by kernel_rfl) (by kernel_rfl) (by exact fun _ _ _ h => h) (by exact yk (.pointer (some ⟨g, 1, none⟩)) (by kernel_rfl) (fun _ => by kernel_rfl)) hHeld ?_
        refine wpAnyE_take (i := 8) (by simp only [List.getElem?_toArray]; rfl) (by kernel_rfl) (by kernel_rfl) (by kernel_rfl) (by kernel_rfl) (by kernel_rfl) (by exact fun _ _ _ h => h) (by exact yk_ldW (by kernel_rfl) (.tmp 19) rfl ⟨g, 1, none⟩ (.slice (some ⟨b1, 0, none⟩) (n1 + 1) k1) (by kernel_rfl) (fun w hh => hh.1.c1)) hHeld ?_
        refine wpAnyE_take (i := 9) (v := .pointer (some ⟨b1, 0, none⟩)) (by simp only [List.getElem?_toArray]; rfl) (by kernel_rfl) (by kernel_rfl) (by kernel_rfl) (by kernel_rfl) (by kernel_rfl) (by exact fun _ _ _ h => h) (.inl ⟨by kernel_rfl, fun ww hSw => by clear hSw; go_simp⟩) hHeld ?_
        refine wpAnyE_take (i := 10) (by simp only [List.getElem?_toArray]; rfl) (by kernel_rfl) (by kernel_rfl) (by kernel_rfl) (by kernel_rfl) (by kernel_rfl) (by exact fun _ _ _ h => h) (by exact yk_ldPc (by kernel_rfl) (.tmp 21) rfl b1 x.p.first x.p.last (.slice x.A x.p.data.length x.c) (by kernel_rfl) (fun w hh => row_cells (e := 96) (B := B) (m := n1 + 1) (k1 := k1) (xs := ws2) (by rw [← hn1]; exact hh.2))) hHeld ?_
        refine wpAnyE_take (i := 11) (by simp only [List.getElem?_toArray]; rfl) (by kernel_rfl) (by kernel_rfl) (by kernel_rfl) (by kernel_rfl) (by kernel_rfl) (by exact fun _ _ _ h => h) (by exact yk (.pointer (some ⟨g, 0, none⟩)) (by kernel_rfl) (fun _ => by kernel_rfl)) hHeld ?_
        refine wpAnyE_take (i := 12) (by simp only [List.getElem?_toArray]; rfl) (by kernel_rfl) (by kernel_rfl) (by kernel_rfl) (by kernel_rfl) (by kernel_rfl) (by exact fun _ _ _ h => h) (by exact yk (.pointer (some ⟨g, 0, none⟩)) (by kernel_rfl) (fun _ => by kernel_rfl)) hHeld ?_
        refine wpAnyE_take (i := 13) (by simp only [List.getElem?_toArray]; rfl) (by kernel_rfl) (by kernel_rfl) (by kernel_rfl) (by kernel_rfl) (by kernel_rfl) (by exact fun _ _ _ h => h) (by exact yk (.pointer (some ⟨g, 3, none⟩)) (by kernel_rfl) (fun _ => by kernel_rfl)) hHeld ?_
        refine wpAnyE_take (i := 14) (by simp only [List.getElem?_toArray]; rfl) (by kernel_rfl) (by kernel_rfl) (by kernel_rfl) (by kernel_rfl) (by kernel_rfl) (by exact fun _ _ _ h => h) (by exact yk_ldQ (by kernel_rfl) (.tmp 25) rfl ⟨g, 3, none⟩ (.int .u16 (nx : Int)) (by kernel_rfl) (fun w hh => hh.1.c3)) hHeld ?_
        refine wpAnyE_take (i := 15) (by simp only [List.getElem?_toArray]; rfl) (by kernel_rfl) (by kernel_rfl) (by kernel_rfl) (by kernel_rfl) (by kernel_rfl) (by exact fun _ _ _ h => h) (by exact yk (.agg #[.bool x.p.first, .bool x.p.last, .slice x.A x.p.data.length x.c, .int .u16 (nx : Int), .bool false, .int .i64 0]) (by kernel_rfl) (fun _ => by kernel_rfl)) hHeld ?_
        refine wpAnyE_ready (rs := [16]) (by kernel_rfl) (by simp) ?_
        refine EachE.cons (by rfl) (by simp only [List.getElem?_toArray]; rfl) (fun KK hKK => ?_) EachE.nil
        rw [if_pos (by kernel_rfl)]
        refine wp_bsF (.tmp 27) rfl (⟨x, nx, false, 0⟩ : Fl) (by kernel_rfl) ?_
        have hsn := sl_newF1 wd1' (⟨x, nx, false, 0⟩ : Fl)
        have h9 := below_alloc1 wd1' (.cells (⟨x, nx, false, 0⟩ : Fl).cells.toArray 98)
        replace hmw := hmw.trans (Mod.of_below h9) (fun i hi h => h) (fun i hi h => absurd hi (by have := hmw.size; omega))
        replace qq := qq.ext h9
        replace rp := ownsP_ext rp h9
        replace rf := ownsP_ext rf h9
        replace hB := Nat.le_trans hB h9.size
        obtain ⟨b6, hb6⟩ : ∃ b6, b6 = wd1'.heap.size := ⟨_, rfl⟩
        obtain ⟨w2', e⟩ : ∃ w2', w2' = World.alloc wd1' (.cells (⟨x, nx, false, 0⟩ : Fl).cells.toArray 98) := ⟨_, rfl⟩
        rw [← e] at hsn hmw qq rp rf hB ⊢
        rw [← hb6] at hsn ⊢
        clear e h9 hb6
        refine hKK.out _ _ ?_ (fun hHeld => ?_)
        · exact (by exact ⟨qq, rp⟩)
        clear hKK KK
        refine wpAnyE_ready (rs := [17]) (by kernel_rfl) (by simp) ?_
        refine EachE.cons (by rfl) (by simp only [List.getElem?_toArray]; rfl) (fun KK hKK => ?_) EachE.nil
        rw [if_pos (by kernel_rfl)]
        have hfa := qq.fap rf
        have hra := rows_apartT rf rp (by decide)
        refine wp_appF (.tmp 16) (.tmp 28) rfl B vf' xs' (by kernel_rfl) rf b6 (some ⟨b6, 0, none⟩) 1 1 [(⟨x, nx, false, 0⟩ : Fl)] (by kernel_rfl) hsn rfl (by have := hh.out.2.2.1; rw [List.length_cons] at this; omega) hB ?_
        intro v17 w3' hrf hm7 hat
        have hat7 : ∀ i, v17.ownBlock = some i → vf'.ownBlock = some i ∨ w.heap.size ≤ i := fun i hi => by
          rcases hat with h | h
          · exact .inl (by rw [← h]; exact hi)
          · rw [h] at hi
            injection hi with hi
            have := HM2.out.size
            have := hmw.size
            right
            omega
        clear hat
        replace hmw := hmw.trans hm7 (fun i hi h => h) (fun i hi h => .inr h)
        replace qq := qq.mod hm7 hfa
        replace rp := ownsP_mod rp hm7 (fun i hi h => hra i h hi)
        replace hB := Nat.le_trans hB hm7.size
        obtain ⟨N7, hN7⟩ : ∃ N7, (xs' ++ [(⟨x, nx, false, 0⟩ : Fl)]).length = N7 := ⟨_, rfl⟩
        obtain ⟨A7, c7, b7, hve, -⟩ := ownsP_sl hrf
        rw [hN7] at hve
        subst hve
        clear hfa hra hm7 rf hsn
        refine hKK.out _ _ ?_ (fun hHeld => ?_)
        · exact (by exact ⟨qq, rp⟩)
        clear hKK KK
        refine wpAnyE_take (i := 18) (by simp only [List.getElem?_toArray]; rfl) (by kernel_rfl) (by kernel_rfl) (by kernel_rfl) (by kernel_rfl) (by kernel_rfl) (by exact fun _ _ _ h => h) (by exact yk (.pointer (some ⟨g, 0, none⟩)) (by kernel_rfl) (fun _ => by kernel_rfl)) hHeld ?_
        refine wpAnyE_take (i := 19) (by simp only [List.getElem?_toArray]; rfl) (by kernel_rfl) (by kernel_rfl) (by kernel_rfl) (by kernel_rfl) (by kernel_rfl) (by exact fun _ _ _ h => h) (by exact yk (.pointer (some ⟨g, 2, none⟩)) (by kernel_rfl) (fun _ => by kernel_rfl)) hHeld ?_
        try simp only [Act.put, List.setIfInBounds_toArray, List.set_cons_zero, List.set_cons_succ]
        refine wpAnyE_ready (rs := [20]) (by kernel_rfl) (by simp) ?_
        refine EachE.last (by rfl) (by simp only [List.getElem?_toArray]; rfl) (fun KK hKK => ?_)
        rw [if_pos (by kernel_rfl)]
        refine wp_stF (.tmp 31) (.tmp 29) rfl ⟨g, 2, none⟩ A7 N7 c7 (by kernel_rfl) (by kernel_rfl) _ qq.c2 (qq.fz 2) ?_
        have hm8 := Mod.setCell w3' ⟨g, 2, none⟩ (.slice A7 N7 c7)
        have hpa := row_apart rp qq (by decide)
        have hfa := qq.fap hrf
        replace qq := qq.set2 (.slice A7 N7 c7)
        replace rp := ownsP_mod rp hm8 (fun i hi h => hpa (by rw [hi]; exact congrArg some h))
        replace hrf := ownsP_mod hrf hm8 (fun i hi h => hfa (by rw [hi]; exact congrArg some h))
        replace hmw := hmw.trans hm8 (fun i hi h => h) (fun i hi h => .inl h)
        replace hB := Nat.le_trans hB hm8.size
        obtain ⟨w4', e⟩ : ∃ w4', w4' = World.setCell w3' ⟨g, 2, none⟩ (.slice A7 N7 c7) := ⟨_, rfl⟩
        rw [← e] at qq rp hrf hmw hB ⊢
        clear e hm8 hpa hfa
        refine hKK.out _ _ ?_
        clear hKK KK
        refine wpAnyE_done (by kernel_rfl) ?_ _
        have rp3 : RowP 96 w4' B (.slice (some ⟨b1, 0, none⟩) (n1 + 1) k1) (x :: ws2) := by
          unfold RowP
          rw [show (x :: ws2).length = n1 + 1 by rw [hn1]; rfl]
          exact rp
        have hpa := row_apart rp qq (by decide)
        have hra := rows_apartT hrf rp (by decide)
        have c1 := qq.c1
        have hlen : ws2.length ≤ 1000000 := by have := hh.out.2.2.1; rw [List.length_cons] at this; omega
        have HN := Lib.hid hn1
        clear hn1 hb1 hk1 e1
        go_wp2_with fail
        refine (Delete_calls B (.slice (some ⟨b1, 0, none⟩) (n1 + 1) k1) x ws2 _ rp3 hlen).mono ?_
        rintro e w4 ⟨v4, rfl, hr4, hv4, hm4⟩
        obtain ⟨A4, c4, b4, hve, -⟩ := ownsP_sl hr4
        rw [← HN.out] at hve
        subst hve
        replace qq := qq.mod hm4 hpa
        replace hrf := ownsP_mod hrf hm4 (fun i hi h => hra i hi h)
        replace hB := Nat.le_trans hB hm4.size
        have hmv := hmw.trans hm4 (S := fun i => i = g ∨ (Value.slice (some ⟨b1, 0, none⟩) (n1 + 1) k1).ownBlock = some i ∨ vf'.ownBlock = some i) (fun i hi h => h.elim .inl (fun h => .inr (.inr h))) (fun i hi h => .inr (.inl h))
        have HR4 := Lib.hid hr4
        have HV4 := Lib.hid hv4
        have HMV := Lib.hid hmv
        have HRF := Lib.hid hrf
        have HAT := Lib.hid hat7
        have HQ := Lib.hid qq
        replace c1 := qq.c1
        have fz1 := qq.fz 1
        have c3 := qq.c3
        have fz3 := qq.fz 3
        clear hr4 hv4 hmv hmw hrf hat7 qq rp rp3 hm4 hpa hra hlen
        obtain ⟨r, hr⟩ : ∃ r : Nat, r = (nx + 1) % 65536 := ⟨_, rfl⟩
        have hA := fun V => Add_calls nx 1 r V (by omega)
        have HRR := Lib.hid hr
        clear hr
        go_wp2_with fail
        refine (hA _).mono ?_
        rintro e w5 ⟨rfl, rfl⟩
        go_wp2_with fail
        go_roundg n1
        case measure =>
          have h4 := hh.out.2.2.2.1
          rw [List.length_cons, ← HN.out] at h4
          omega
        case rel =>
          obtain ⟨g1, g2, g3, g4, g5, g6, g7⟩ := hh.out
          have hS := HS.out
          rw [List.length_cons, ← HN.out] at g3
          have hmS := (Mod.setCell w4 ⟨g, 1, none⟩ (.slice A4 n1 c4)).trans (Mod.setCell (w4.setCell ⟨g, 1, none⟩ (.slice A4 n1 c4)) ⟨g, 3, none⟩ (.int .u16 (r : Int))) (S := fun i => i = g) (fun i hi h => h) (fun i hi h => h)
          have h1 := row_apart HR4.out HQ.out (by decide)
          have h2 := row_apart HRF.out HQ.out (by decide)
          refine ⟨r, .slice A4 n1 c4, .slice A7 N7 c7, ws2, xs' ++ [⟨x, nx, false, 0⟩], ⟨(HQ.out.set1 (.slice A4 n1 c4)).set3 r, ownsP_mod HR4.out hmS (fun i hi h => h1 (by rw [hi]; exact congrArg some h)), ownsP_mod HRF.out hmS (fun i hi h => h2 (by rw [hi]; exact congrArg some h)), Nat.le_trans hB hmS.size⟩, Lib.hid ⟨?_, ?_, ?_, ?_, ?_, ?_, ?_⟩, ?_⟩
          · rw [HRR.out]; omega
          · intro y hy
            rcases List.mem_append.1 hy with hy | hy
            · exact g2 y hy
            · rw [List.mem_singleton.1 hy]; exact g1
          · rw [List.length_append, ← HN.out, List.length_singleton]; omega
          · exact HN.out.symm
          · rw [g5, startN, ← HZ.out, if_pos rfl, HRR.out]
          · exact HV4.out.trans g6
          · exact fun i hi => (HAT.out i hi).elim (g7 i) .inr
          · refine HM2.out.trans (HMV.out.trans hmS (S := fun i => i = g ∨ (Value.slice (some ⟨b1, 0, none⟩) (n1 + 1) k1).ownBlock = some i ∨ vf'.ownBlock = some i) (fun i hi h => h) (fun i hi h => .inl h)) (fun i hi h => h) (fun i hi h => ?_)
            rw [hS]
            rcases h with h | h | h
            · exact .inl h
            · exact .inr (.inl (by rw [← g6]; exact h))
            · rcases g7 i h with h | h
              · exact .inr (.inr h)
              · omega
end Go.Proofs.YtcgbamkfflcdfaaDoor
/- The reference's Join: lists of bytes behind one another, in new memory; nothing that was there turns. Condition: the sum of the lengths fits. -/
namespace Go.Proofs.YtcgbamkfflcdfaaDoor
open Go.RowKit

/-- Values that are slices of bytes, and what they read as. -/
def Bss (w : World) (vs : List Value) (ls : List (List UInt8)) : Prop :=
  vs.length = ls.length ∧ ∀ (i : Nat) (l : List UInt8), ls[i]? = some l → ∃ A c b, vs[i]? = some (Value.slice A l.length c) ∧ Bs w b A l

theorem Bss.ext {w w' : World} {vs : List Value} {ls : List (List UInt8)} (h : Bss w vs ls) (hm : Below w.heap.size w w') : Bss w' vs ls :=
  ⟨h.1, fun i l hl => by
    obtain ⟨A, c, b, h1, h2⟩ := h.2 i l hl
    exact ⟨A, c, b, h1, Sl.ext h2 hm⟩⟩
theorem Bss.nil_ (w : World) : Bss w [] [] := ⟨rfl, fun i l h => by simp at h⟩
theorem Bss.cons {w : World} {vs : List Value} {ls : List (List UInt8)} {A : Option Addr} {l : List UInt8} {n c b : Nat} (h : Bs w b A l) (hn : l.length = n) (r : Bss w vs ls) : Bss w (Value.slice A n c :: vs) (l :: ls) :=
  ⟨by simp [r.1], fun i x hx => by
    cases i with
    | zero =>
      simp at hx
      subst hx
      exact ⟨A, c, b, by simp [hn], h⟩
    | succ i =>
      obtain ⟨A', c', b', h1, h2⟩ := r.2 i x (by simpa using hx)
      exact ⟨A', c', b', by simpa using h1, h2⟩⟩

theorem flatten_take_succ (ls : List (List UInt8)) (k : Nat) (h : k < ls.length) : (ls.take (k + 1)).flatten = (ls.take k).flatten ++ ls[k] := by
  rw [List.take_succ_eq_append_getElem h]
  simp only [List.flatten_append, List.flatten_cons, List.flatten_nil, List.append_nil]
theorem flatten_take_le (ls : List (List UInt8)) (k : Nat) : (ls.take k).flatten.length ≤ ls.flatten.length := by
  have : (ls.take k).flatten ++ (ls.drop k).flatten = ls.flatten := by rw [← List.flatten_append, List.take_append_drop]
  rw [← this]
  simp

set_option maxHeartbeats 400000 in
theorem Join_calls (A : Option Addr) (vs : List Value) (ls : List (List UInt8)) (n c b : Nat) (w : World) (hs : Sl w b A vs) (hv : Bss w vs ls) (hn : ls.length = n) (h1 : n ≤ maxLen) (h2 : ls.flatten.length ≤ 140737488355328) :
    Calls Tryd.prog 33 #[.slice A n c] w fun e w' => ∃ v, e = .returned v ∧ Row w' w.heap.size v ls.flatten ∧ Below w.heap.size w w' := by
  unfold maxLen at h1
  have HN := Lib.hid hn
  have HL := Lib.hid h2
  clear hn h2
  go_enter Tryd.func33, Tryd.ntmps33
  go_wp2
  go_loopw [3, 8] (fun v i wr => ∃ k : Nat, k ≤ n ∧ i = .int .i64 k ∧ Row wr w.heap.size v (ls.take k).flatten ∧ Below w.heap.size w wr) (fun _ i _ => n - (intOf i).toNat)
  case atStart => exact ⟨0, Nat.zero_le _, rfl, by simpa using Row.nil_ _ _, Below.refl _ _⟩
  case round =>
    obtain ⟨k, hk, rfl, hown, hb⟩ := hrel
    by_cases hlt : k < n
    · have hkl : k < ls.length := by rw [HN.out]; exact hlt
      obtain ⟨A1, c1, b1, hv1, hs1⟩ := (hv.ext hb).2 k ls[k] (List.getElem?_eq_getElem hkl)
      obtain ⟨oa, rfl, hca⟩ := (Sl.ext hs hb) (by rintro rfl; simp at hv1)
      have ca := hca k _ hv1
      have hbs : w.heap.size ≤ wr.heap.size := hb.size
      obtain ⟨q, hq⟩ : ∃ q, q = ls[k] := ⟨_, rfl⟩
      rw [← hq] at ca hs1
      have e1 := Lib.hid (flatten_take_succ ls k hkl)
      have hle : (ls.take k).flatten.length + q.length ≤ 140737488355328 := by
        have h3 := flatten_take_le ls (k + 1)
        have h4 := HL.out
        rw [e1.out, ← hq] at h3
        simp only [List.length_append] at h3
        omega
      have HQ := Lib.hid hq
      clear hca hv1 hq
      go_wp2_with (at_builtin; refine wpList_app wr rfl (.tmp 12) (.tmp 13) rfl w.heap.size _ _ rfl hown b1 A1 q.length c1 q rfl hs1 rfl hle hbs ?_; intro v' w1 hown' hmod _)
      go_roundw
      case rel => exact ⟨k + 1, by omega, by go_num, hown'.cast (by rw [e1.out, HQ.out]), hb.trans (hmod.below hbs (fun i hi hv => by have := (hown.lt i hv).1; omega))⟩
      case measure => simp [intOf]; omega
    · go_wp2
      go_ret
      refine ⟨_, rfl, hown.cast ?_, hb⟩
      have := HN.out
      rw [List.take_of_length_le (by omega)]
end Go.Proofs.YtcgbamkfflcdfaaDoor
/- The reference's Low and Value: a number's bytes, the lowest first, and back. Conditions: the numbers fit 64 bits. -/
namespace Go.Proofs.YtcgbamkfflcdfaaDoor
open Go.RowKit

def low (n k : Nat) : List UInt8 := (List.range k).map fun i => UInt8.ofNat (n / 256 ^ i)
theorem low_succ (n k : Nat) : low n (k + 1) = low n k ++ [UInt8.ofNat (n / 256 ^ k)] := by simp [low, List.range_succ]
@[simp] theorem low_length (n k : Nat) : (low n k).length = k := by simp [low]

set_option maxHeartbeats 400000 in
theorem Low_calls (n : Nat) (s : Int) (w : World) (hn : n ≤ 18446744073709551615) (h0 : 0 ≤ s) (h1 : s ≤ 1000) :
    Calls Tryd.prog 51 #[.int .u64 n, .int .i64 s] w fun e w' => ∃ v, e = .returned v ∧ Row w' w.heap.size v (low n s.toNat) ∧ Below w.heap.size w w' := by
  obtain ⟨t, rfl⟩ := Int.eq_ofNat_of_zero_le h0
  rw [Int.toNat_natCast]
  go_enter Tryd.func51, Tryd.ntmps51
  go_wp2
  go_loopw [0, 5, 6] (fun x v i wr => ∃ k m : Nat, k ≤ t ∧ i = .int .i64 k ∧ x = .int .u64 m ∧ Hid (m = n / 256 ^ k) ∧ m ≤ n ∧ Row wr w.heap.size v (low n k) ∧ Below w.heap.size w wr) (fun _ _ i _ => t - (intOf i).toNat)
  case atStart => exact ⟨0, n, Nat.zero_le _, rfl, rfl, Lib.hid (by simp), Nat.le_refl _, by simpa [low] using Row.nil_ _ _, Below.refl _ _⟩
  case round =>
    obtain ⟨k, m, hk, rfl, rfl, hm, hmn, hown, hb⟩ := hrel
    by_cases hlt : k < t
    · have hbs : w.heap.size ≤ wr.heap.size := hb.size
      have hle : (low n k).length + 1 ≤ 140737488355328 := by simp; omega
      have e2 := Lib.hid (u8_ofNat m)
      go_wp2_with (at_builtin; refine wpList_app1 wr rfl (.tmp 12) (.tmp 16) rfl w.heap.size _ _ rfl hown (UInt8.ofNat m) (by rw [e2.out]) rfl hle hbs ?_; intro v' w1 hown' hmod _)
      go_roundw
      case rel =>
        refine ⟨k + 1, m / 256, by omega, by go_num, by go_num, Lib.hid ?_, by omega, hown'.cast ?_, hb.trans (hmod.below hbs (fun i hi hv => by have := (hown.lt i hv).1; omega))⟩
        · rw [hm.out, Nat.div_div_eq_div_mul, Nat.pow_succ]
        · rw [low_succ, hm.out]
      case measure => simp [intOf]; omega
    · go_wp2
      go_ret
      refine ⟨_, rfl, hown.cast ?_, hb⟩
      rw [show k = t by omega]

def valN (l : List UInt8) : Nat := l.foldr (fun x acc => 256 * acc + x.toNat) 0
theorem valN_cons (x : UInt8) (l : List UInt8) : valN (x :: l) = 256 * valN l + x.toNat := rfl
theorem valN_lt (l : List UInt8) : valN l < 256 ^ l.length := by
  induction l with
  | nil => simp [valN]
  | cons x l ih =>
    rw [valN_cons, List.length_cons, Nat.pow_succ]
    have := x.toNat_lt
    omega
theorem valN_drop (l : List UInt8) (k : Nat) (h : k < l.length) : valN (l.drop k) = 256 * valN (l.drop (k + 1)) + l[k].toNat := by
  rw [List.drop_eq_getElem_cons h, valN_cons]

set_option maxHeartbeats 400000 in
theorem Value_calls (A : Option Addr) (l : List UInt8) (n c b : Nat) (w : World) (hs : Bs w b A l) (hn : l.length = n) (h8 : n ≤ 8) :
    Calls Tryd.prog 80 #[.slice A n c] w fun e w' => e = .returned (.int .u64 (valN l : Nat)) ∧ w = w' := by
  have HN := Lib.hid hn
  clear hn
  go_enter Tryd.func80, Tryd.ntmps80
  go_wp2
  go_loop [3, 4] (fun x i => ∃ k m : Nat, k ≤ n ∧ i = .int .i64 ((k : Int) - 1) ∧ x = .int .u64 m ∧ Hid (m = valN (l.drop k))) (fun _ i => (intOf i + 1).toNat)
  case atStart => exact ⟨n, 0, Nat.le_refl _, by go_num, rfl, Lib.hid (by rw [← HN.out, List.drop_length]; rfl)⟩
  case round =>
    obtain ⟨k, m, hk, rfl, rfl, hm⟩ := hrel
    by_cases hlt : 0 < k
    · obtain ⟨j, rfl⟩ : ∃ j, k = j + 1 := ⟨k - 1, by omega⟩
      have hjl : j < l.length := by rw [HN.out]; omega
      obtain ⟨oa, rfl, hca⟩ := Bs.at_ hs hjl
      have ca := hca j hjl
      have hv := Lib.hid (valN_drop l j hjl)
      obtain ⟨q, hq⟩ : ∃ q, q = l[j] := ⟨_, rfl⟩
      rw [← hq] at ca
      have HQ := Lib.hid hq
      have hq8 := q.toNat_lt
      have hm2 : m < 72057594037927936 := by
        rw [hm.out]
        refine Nat.lt_of_lt_of_le (valN_lt _) ?_
        have : (l.drop (j + 1)).length ≤ 7 := by rw [List.length_drop, HN.out]; omega
        exact Nat.le_trans (Nat.pow_le_pow_right (by omega) this) (by decide)
      clear hca hq
      go_wp2
      go_round
      case rel =>
        refine ⟨j, 256 * m + q.toNat, by omega, rfl, by go_num, Lib.hid ?_⟩
        rw [hv.out, hm.out, HQ.out]
      case measure => simp [intOf]
    · go_wp2
      go_ret
      refine ⟨?_, rfl⟩
      rw [show k = 0 by omega] at hm
      rw [hm.out]
      rfl
end Go.Proofs.YtcgbamkfflcdfaaDoor
/- Sums, in plain numbers: a sum's step is linear, whole bytes go in at once, and what is not nought and of at most 32 bits leaves a trace. No condition beyond the widths said. -/
namespace Go.Proofs.YtcgbamkfflcdfaaDoor

/-- One bit's step of a sum. -/
def bitStep (s : Nat) : Nat := s / 2 ^^^ (if s % 2 = 1 then 2197175160 else 0)
def crcBits : Nat → Nat → Nat
  | 0, s => s
  | k + 1, s => crcBits k (bitStep s)
theorem crcBits_add (j k s : Nat) : crcBits (j + k) s = crcBits k (crcBits j s) := by
  induction j generalizing s with
  | zero => simp [crcBits]
  | succ j ih => rw [Nat.succ_add]; exact ih _
theorem crcBits_succ (k s : Nat) : crcBits (k + 1) s = bitStep (crcBits k s) := by rw [crcBits_add k 1]; rfl
theorem xor_odd (a b : Nat) : (a ^^^ b) % 2 = (a + b) % 2 := by
  have h := Nat.xor_mod_two_pow (a := a) (b := b) (n := 1)
  rw [Nat.pow_one] at h
  rw [h]
  have ha : a % 2 = 0 ∨ a % 2 = 1 := by omega
  have hb : b % 2 = 0 ∨ b % 2 = 1 := by omega
  rcases ha with ha | ha <;> rcases hb with hb | hb <;> rw [ha, hb] <;> simp <;> omega
theorem bitStep_xor (a b : Nat) : bitStep (a ^^^ b) = bitStep a ^^^ bitStep b := by
  unfold bitStep
  rw [Nat.xor_div_two, xor_odd]
  have ha : a % 2 = 0 ∨ a % 2 = 1 := by omega
  have hb : b % 2 = 0 ∨ b % 2 = 1 := by omega
  have e : ∀ x y z : Nat, x ^^^ z ^^^ (y ^^^ z) = x ^^^ y := fun x y z => by
    rw [Nat.xor_assoc, ← Nat.xor_assoc z y z, Nat.xor_comm z y, Nat.xor_assoc y z z, Nat.xor_self, Nat.xor_zero]
  rcases ha with ha | ha <;> rcases hb with hb | hb
  · rw [if_neg (by omega), if_neg (by omega), if_neg (by omega)]; simp
  · rw [if_pos (by omega), if_neg (by omega), if_pos hb, Nat.xor_zero, Nat.xor_assoc]
  · rw [if_pos (by omega), if_pos ha, if_neg (by omega), Nat.xor_zero, Nat.xor_assoc, Nat.xor_assoc, Nat.xor_comm (b / 2)]
  · rw [if_neg (by omega), if_pos ha, if_pos hb, Nat.xor_zero, e]
theorem crcBits_xor (k a b : Nat) : crcBits k (a ^^^ b) = crcBits k a ^^^ crcBits k b := by
  induction k generalizing a b with
  | zero => rfl
  | succ k ih => show crcBits k (bitStep (a ^^^ b)) = crcBits k (bitStep a) ^^^ crcBits k (bitStep b); rw [bitStep_xor]; exact ih _ _
theorem crcBits_shift (k m : Nat) : crcBits k (2 ^ k * m) = m := by
  induction k with
  | zero => simp [crcBits]
  | succ k ih =>
    show crcBits k (bitStep (2 ^ (k + 1) * m)) = m
    have h : 2 ^ (k + 1) * m = 2 * (2 ^ k * m) := by rw [Nat.pow_succ, Nat.mul_comm (2 ^ k) 2, Nat.mul_assoc]
    have h2 : bitStep (2 ^ (k + 1) * m) = 2 ^ k * m := by
      unfold bitStep
      rw [h, if_neg (by omega), Nat.xor_zero, Nat.mul_div_cancel_left _ (by omega)]
    rw [h2, ih]
theorem bitStep_lt {s : Nat} (h : s < 2 ^ 32) : bitStep s < 2 ^ 32 := by
  unfold bitStep
  refine Nat.xor_lt_two_pow (by omega) ?_
  split <;> omega
theorem crcBits_lt {s : Nat} (k : Nat) (h : s < 2 ^ 32) : crcBits k s < 2 ^ 32 := by
  induction k generalizing s with
  | zero => exact h
  | succ k ih => exact ih (bitStep_lt h)
theorem bitStep_nought {s : Nat} (h : s < 2 ^ 32) (h0 : bitStep s = 0) : s = 0 := by
  unfold bitStep at h0
  by_cases ho : s % 2 = 1
  · exfalso
    rw [if_pos ho] at h0
    have h1 : (s / 2 ^^^ 2197175160).testBit 31 = true := by
      rw [Nat.testBit_xor, Nat.testBit_lt_two_pow (show s / 2 < 2 ^ 31 by omega)]
      decide
    rw [h0] at h1
    simp at h1
  · rw [if_neg ho, Nat.xor_zero] at h0
    omega
theorem crcBits_nought {s : Nat} (k : Nat) (h : s < 2 ^ 32) (h0 : crcBits k s = 0) : s = 0 := by
  induction k generalizing s with
  | zero => exact h0
  | succ k ih => exact bitStep_nought h (ih (bitStep_lt h) h0)
/-- What is not nought and of at most 32 bits leaves a trace. -/
theorem crcBits_burst {n j m : Nat} (hj : j ≤ n) (h : m < 2 ^ 32) (h0 : crcBits n (2 ^ j * m) = 0) : m = 0 := by
  obtain ⟨i, rfl⟩ : ∃ i, n = j + i := ⟨n - j, by omega⟩
  rw [crcBits_add, crcBits_shift] at h0
  exact crcBits_nought i h h0

/-- A sum's step by one byte, and by a text. -/
def step8 (s : Nat) (b : Nat) : Nat := crcBits 8 (s ^^^ b)
def crc (s : Nat) (l : List UInt8) : Nat := l.foldl (fun s b => step8 s b.toNat) s
theorem crc_append (s : Nat) (l m : List UInt8) : crc s (l ++ m) = crc (crc s l) m := by simp [crc, List.foldl_append]
theorem crc_cons (s : Nat) (b : UInt8) (l : List UInt8) : crc s (b :: l) = crc (step8 s b.toNat) l := rfl
theorem low_byte (a b : Nat) (h : b < 256) : 256 * a + b = (256 * a) ^^^ b := by
  apply Nat.eq_of_testBit_eq
  intro i
  have h1 := Nat.testBit_two_pow_mul_add a (b := b) (i := 8) h i
  have h2 := Nat.testBit_two_pow_mul (i := 8) (a := a) (j := i)
  rw [Nat.testBit_xor]
  rw [show (2 : Nat) ^ 8 = 256 by rfl] at h1 h2
  rw [h1, h2]
  by_cases hi : i < 8
  · rw [if_pos hi]; simp [show ¬ i ≥ 8 by omega]
  · rw [if_neg hi]
    have h3 : b.testBit i = false := Nat.testBit_lt_two_pow (Nat.lt_of_lt_of_le h (by have := Nat.pow_le_pow_right (n := 2) (by omega) (show 8 ≤ i by omega); simpa using this))
    simp [show i ≥ 8 by omega, h3]
/-- A text's sum is that of its number, as many bits on. -/
theorem crc_val (s : Nat) (l : List UInt8) : crc s l = crcBits (8 * l.length) (s ^^^ valN l) := by
  induction l generalizing s with
  | nil => simp [crc, valN, crcBits]
  | cons b l ih =>
    rw [crc_cons, ih, valN_cons, List.length_cons]
    rw [show 8 * (l.length + 1) = 8 + 8 * l.length by omega, crcBits_add]
    congr 1
    rw [low_byte _ _ (by have := b.toNat_lt; omega), step8, Nat.xor_comm (256 * valN l), ← Nat.xor_assoc, crcBits_xor 8 (s ^^^ b.toNat)]
    congr 1
    exact (crcBits_shift 8 (valN l)).symm
theorem step8_lt {s b : Nat} (h : s < 2 ^ 32) (hb : b < 256) : step8 s b < 2 ^ 32 := crcBits_lt 8 (Nat.xor_lt_two_pow h (by omega))
theorem crc_lt {s : Nat} (l : List UInt8) (h : s < 2 ^ 32) : crc s l < 2 ^ 32 := by
  induction l generalizing s with
  | nil => exact h
  | cons b l ih => exact ih (step8_lt h (by have := b.toNat_lt; omega))
/-- The step by a table. -/
theorem step8_table (s b : Nat) : step8 s b = s / 256 ^^^ step8 0 (s % 256 ^^^ b) := by
  have h1 : s = 256 * (s / 256) ^^^ s % 256 := by rw [← low_byte _ _ (by omega)]; omega
  unfold step8
  conv => lhs; rw [h1]
  rw [Nat.xor_assoc, crcBits_xor, Nat.zero_xor]
  congr 1
  exact crcBits_shift 8 _
theorem low_first (n k : Nat) : low n (k + 1) = UInt8.ofNat n :: low (n / 256) k := by
  simp only [low, List.range_succ_eq_map, List.map_cons, List.map_map, Nat.pow_zero, Nat.div_one]
  congr 1
  apply List.map_congr_left
  intro i _
  simp only [Function.comp, Nat.pow_succ]
  rw [Nat.mul_comm, Nat.div_div_eq_div_mul]
theorem valN_low (n k : Nat) : valN (low n k) = n % 256 ^ k := by
  induction k generalizing n with
  | zero => simp [low, valN, Nat.mod_one]
  | succ k ih =>
    rw [low_first, valN_cons, ih, Nat.pow_succ, Nat.mul_comm (256 ^ k), Nat.mod_mul]
    simp
    omega
/-- A number of four bytes, given in as a text, is given in at once. -/
theorem crc_low {s v : Nat} (hv : v < 2 ^ 32) : crc s (low v 4) = crcBits 32 (s ^^^ v) := by
  rw [crc_val, low_length, valN_low, Nat.mod_eq_of_lt (by simpa using hv)]
/-- Two texts of one length that differ by at most 32 bits in a row, from the bit j on, have unlike sums. -/
theorem crc_burst {s : Nat} {l m : List UInt8} {j d : Nat} (hl : l.length = m.length) (hj : j ≤ 8 * l.length) (hd : d < 2 ^ 32) (hx : valN l ^^^ valN m = 2 ^ j * d) (he : crc s l = crc s m) : d = 0 := by
  rw [crc_val, crc_val, ← hl, crcBits_xor, crcBits_xor _ _ (valN m)] at he
  refine crcBits_burst hj hd ?_
  rw [← hx, crcBits_xor]
  have h2 := congrArg (crcBits (8 * l.length) s ^^^ ·) he
  simp only [← Nat.xor_assoc, Nat.xor_self, Nat.zero_xor] at h2
  rw [h2, Nat.xor_self]
theorem xor_nought {a b : Nat} (h : a ^^^ b = 0) : a = b := by
  have h2 : a ^^^ b ^^^ b = 0 ^^^ b := by rw [h]
  rwa [Nat.xor_assoc, Nat.xor_self, Nat.xor_zero, Nat.zero_xor] at h2
theorem flip_xor {x : Nat} (h : x < 2 ^ 32) : 4294967295 - x = 4294967295 ^^^ x := by
  apply Nat.eq_of_testBit_eq
  intro i
  have h1 := Nat.testBit_two_pow_sub_succ h i
  have h2 : (4294967295 : Nat).testBit i = decide (i < 32) := Nat.testBit_two_pow_sub_one 32 i
  rw [Nat.testBit_xor, h2, show 4294967295 - x = 2 ^ 32 - (x + 1) by omega, h1]
  by_cases hi : i < 32
  · simp [hi]
  · have h3 : x.testBit i = false := Nat.testBit_lt_two_pow (Nat.lt_of_lt_of_le h (Nat.pow_le_pow_right (by omega) (by omega)))
    simp [hi, h3]
/-- A text's sum. -/
def sumN (l : List UInt8) : Nat := 4294967295 - crc 4294967295 l
theorem sumN_lt (l : List UInt8) : sumN l < 2 ^ 32 := by unfold sumN; omega
theorem sumN_inj {l m : List UInt8} : sumN l = sumN m ↔ crc 4294967295 l = crc 4294967295 m := by
  have h1 := crc_lt (s := 4294967295) l (by omega)
  have h2 := crc_lt (s := 4294967295) m (by omega)
  unfold sumN
  omega
/-- What ends in its sum: just what leaves the one rest. -/
theorem opens_iff {p t : List UInt8} (ht : t.length = 4) : valN t = sumN p ↔ crc 4294967295 (p ++ t) = crcBits 32 4294967295 := by
  have hc := crc_lt (s := 4294967295) p (by omega)
  have hv : valN t < 2 ^ 32 := by have := valN_lt t; rw [ht] at this; simpa using this
  rw [crc_append, crc_val _ t, ht]
  unfold sumN
  rw [flip_xor hc]
  obtain ⟨c, hcc⟩ : ∃ c, c = crc 4294967295 p := ⟨_, rfl⟩
  rw [← hcc] at hc ⊢
  constructor
  · intro h
    rw [h, Nat.xor_comm 4294967295 c, ← Nat.xor_assoc, Nat.xor_self, Nat.zero_xor]
  · intro h
    have h1 : crcBits 32 (c ^^^ valN t ^^^ 4294967295) = 0 := by rw [crcBits_xor, h, Nat.xor_self]
    have h2 := crcBits_nought 32 (Nat.xor_lt_two_pow (Nat.xor_lt_two_pow hc hv) (by omega)) h1
    have h3 := xor_nought h2
    rw [← h3, Nat.xor_comm c, Nat.xor_assoc, Nat.xor_self, Nat.xor_zero]
/-- What is sealed, with at most 32 bits in a row turned, opens just if none was. -/
theorem opens_burst {q m : List UInt8} {j d : Nat} (hq : crc 4294967295 q = crcBits 32 4294967295) (hl : q.length = m.length) (hj : j ≤ 8 * q.length) (hd : d < 2 ^ 32) (hx : valN q ^^^ valN m = 2 ^ j * d) : crc 4294967295 m = crcBits 32 4294967295 ↔ d = 0 := by
  constructor
  · intro h
    exact crc_burst hl hj hd hx (hq.trans h.symm)
  · intro h
    subst h
    have h1 := xor_nought (hx.trans (Nat.mul_zero _))
    rw [← hq, crc_val, crc_val, hl, h1]
end Go.Proofs.YtcgbamkfflcdfaaDoor
/- Step: a sum behind one more byte is the plain step. Condition: the sum fits 32 bits. -/
namespace Go.Proofs.YtcgbamkfflcdfaaDoor
open Go.RowKit

theorem bitStep_go (m : Nat) (h : m < 2 ^ 32) : bits .xor .u32 ((m : Int) / 2) (bits .and .u32 (m : Int) 1 * 2197175160 % 4294967296) = ((bitStep m : Nat) : Int) := by
  have h1 : bits .and .u32 (m : Int) 1 = ((m % 2 : Nat) : Int) := by
    rw [show (1 : Int) = ((1 : Nat) : Int) from rfl, u32_and_nat m 1 (by omega) (by omega), Nat.and_one_is_mod]
  have h2 : ((m % 2 : Nat) : Int) * 2197175160 % 4294967296 = ((if m % 2 = 1 then 2197175160 else 0 : Nat) : Int) := by
    split <;> omega
  rw [h1, h2, show ((m : Int) / 2) = ((m / 2 : Nat) : Int) by omega, u32_xor_nat _ _ (by omega) (by split <;> omega)]
  rfl
set_option maxHeartbeats 1000000 in
set_option maxRecDepth 20000 in
theorem Step_calls (s : Nat) (b : Nat) (w : World) (hs : s < 2 ^ 32) (hb : b < 256) :
    Calls Tryd.prog 76 #[.int .u32 s, .int .u8 b] w fun e w' => e = .returned (.int .u32 (step8 s b : Nat)) ∧ w = w' := by
  have e0 : bits .xor .u32 (s : Int) (b : Int) = ((s ^^^ b : Nat) : Int) := u32_xor_nat s b (by omega) (by omega)
  have l0 : s ^^^ b < 2 ^ 32 := Nat.xor_lt_two_pow hs (by omega)
  obtain ⟨x, hx⟩ : ∃ x, x = s ^^^ b := ⟨_, rfl⟩
  have HS := Lib.hid (show step8 s b = crcBits 8 x by rw [hx]; rfl)
  rw [← hx] at e0 l0
  clear hx hs
  go_enter Tryd.func76, Tryd.ntmps76
  go_wp2_with fail
  go_loop [0, 10] (fun v i => ∃ k m : Nat, k ≤ 8 ∧ i = .int .i64 k ∧ v = .int .u32 m ∧ Hid (m < 2 ^ 32) ∧ Hid (m = crcBits k x)) (fun _ i => 8 - (intOf i).toNat)
  case atStart => exact ⟨0, x, by omega, rfl, rfl, Lib.hid l0, Lib.hid rfl⟩
  case round =>
    obtain ⟨k, m, hk, rfl, rfl, hm, hv⟩ := hrel
    by_cases hlt : k < 8
    · have hb := bitStep_go m hm.out
      go_wp2_with fail
      go_round
      case rel => exact ⟨k + 1, bitStep m, by omega, by go_num, rfl, Lib.hid (bitStep_lt hm.out), Lib.hid (by rw [crcBits_succ, hv.out])⟩
      case measure => simp [intOf]; omega
    · have hk8 : k = 8 := by omega
      subst hk8
      go_wp2_with fail
      go_ret
      exact ⟨by rw [HS.out, hv.out]; rfl, rfl⟩
end Go.Proofs.YtcgbamkfflcdfaaDoor
/- The reference's Sum, bit by bit, is the plain sum. Condition: the text is the slice's. -/
namespace Go.Proofs.YtcgbamkfflcdfaaDoor
open Go.RowKit

theorem bitStep_ref (r c : Nat) : bitStep (r ^^^ c) = (r / 2 ^^^ (if (r % 2 + c) % 2 = 1 then 2197175160 else 0)) ^^^ c / 2 := by
  unfold bitStep
  rw [Nat.xor_div_two, xor_odd, show (r + c) % 2 = (r % 2 + c) % 2 by omega, Nat.xor_assoc, Nat.xor_comm (c / 2), Nat.xor_assoc]
theorem ref_next {y r x j : Nat} (h : crcBits j y = r ^^^ x / 2 ^ j) : crcBits (j + 1) y = (r / 2 ^^^ (if (r % 2 + x / 2 ^ j) % 2 = 1 then 2197175160 else 0)) ^^^ x / 2 ^ (j + 1) := by
  rw [crcBits_succ, h, bitStep_ref, Nat.div_div_eq_div_mul, Nat.pow_succ]
theorem crc_take {s : Nat} {l : List UInt8} {k : Nat} (h : k < l.length) : crc s (l.take (k + 1)) = crcBits 8 (crc s (l.take k) ^^^ l[k].toNat) := by
  rw [List.take_succ_eq_append_getElem h, crc_append]; rfl
set_option maxHeartbeats 1000000 in
set_option maxRecDepth 20000 in
theorem RefSum_calls (A : Option Addr) (l : List UInt8) (n c b : Nat) (w : World) (hs : Bs w b A l) (hl : l.length = n) (hm : n ≤ maxLen) :
    Calls Tryd.prog 78 #[.slice A n c] w fun e w' => e = .returned (.int .u32 (sumN l : Nat)) ∧ w = w' := by
  unfold maxLen at hm
  have HN := Lib.hid hl
  clear hl
  go_enter Tryd.func78, Tryd.ntmps78
  go_wp2_with fail
  go_loop [3, 10] (fun v i => ∃ k m : Nat, k ≤ n ∧ i = .int .i64 k ∧ v = .int .u64 m ∧ Hid (m < 2 ^ 32) ∧ Hid (m = crc 4294967295 (l.take k))) (fun _ i => n - (intOf i).toNat)
  case atStart => exact ⟨0, 4294967295, by omega, rfl, rfl, Lib.hid (by omega), Lib.hid rfl⟩
  case round =>
    obtain ⟨k, m, hk, rfl, rfl, hm32, hv⟩ := hrel
    by_cases hlt : k < n
    · obtain ⟨oa, rfl, hca⟩ := hs.at_ (k := k) (by rw [HN.out]; exact hlt)
      have ca := hca k (by rw [HN.out]; exact hlt)
      have kl : k < l.length := by rw [HN.out]; exact hlt
      have HT := Lib.hid (crc_take (s := 4294967295) kl)
      obtain ⟨x, hx⟩ : ∃ x : Nat, x = l[k].toNat := ⟨_, rfl⟩
      have x8 : x < 256 := by have := l[k].toNat_lt; omega
      rw [← hx] at ca HT

      clear hca hx
      go_wp2_with fail
      go_loop [3, 6] (fun v i => ∃ j r : Nat, j ≤ 8 ∧ i = .int .i64 j ∧ v = .int .u64 r ∧ Hid (r < 2 ^ 32) ∧ Hid (crcBits j (m ^^^ x) = r ^^^ x / 2 ^ j)) (fun _ i => 8 - (intOf i).toNat)
      case atStart => exact ⟨0, m, by omega, rfl, rfl, hm32, Lib.hid (by simp [crcBits])⟩
      case round =>
        obtain ⟨j, r, hj, rfl, rfl, hr32, hr⟩ := hrel
        by_cases hlt2 : j < 8
        · have hnx := Lib.hid (ref_next hr.out)
          obtain ⟨q, hq⟩ : ∃ q, q = x / 2 ^ j := ⟨_, rfl⟩
          have hqi : (x : Int) / 2 ^ j = (q : Int) := by rw [hq]; simp
          have q8 : q < 256 := by rw [hq]; exact Nat.lt_of_le_of_lt (Nat.div_le_self _ _) x8
          rw [← hq] at hnx
          have hrr := hr32.out
          have hr2 : r / 2 < 2 ^ 32 := by omega
          have hxo : bits .xor .u64 ((r : Int) / 2) 2197175160 = ((r / 2 ^^^ 2197175160 : Nat) : Int) := by
            rw [show ((r : Int) / 2) = ((r / 2 : Nat) : Int) by omega, show (2197175160 : Int) = ((2197175160 : Nat) : Int) from rfl, u64_xor_nat _ _ (by omega) (by omega)]
          clear hq
          by_cases ho : (r % 2 + q) % 2 = 1
          · have hb1 : (((r : Int) % 2 + (q : Int)) % 2 == 1) = true := by simp only [beq_iff_eq]; omega
            have hnx' := Lib.hid (hnx.out.trans (by rw [if_pos ho]))
            go_wp2_with fail
            go_round
            case rel => exact ⟨j + 1, r / 2 ^^^ 2197175160, by omega, by go_num, rfl, Lib.hid (Nat.xor_lt_two_pow hr2 (by omega)), hnx'⟩
            case measure => simp [intOf]; omega
          · have hb1 : (((r : Int) % 2 + (q : Int)) % 2 == 1) = false := by simp only [beq_eq_false_iff_ne, ne_eq]; omega
            have hnx' := Lib.hid (hnx.out.trans (by rw [if_neg ho, Nat.xor_zero]))
            go_wp2_with fail
            go_round
            case rel => exact ⟨j + 1, r / 2, by omega, by go_num, by go_num, Lib.hid hr2, hnx'⟩
            case measure => simp [intOf]; omega
        · have hj8 : j = 8 := by omega
          subst hj8
          have hr8 : r = crc 4294967295 (l.take (k + 1)) := by
            rw [HT.out, ← hv.out, hr.out, show x / 2 ^ 8 = 0 by omega, Nat.xor_zero]
          go_wp2_with fail
          go_round
          case rel => exact ⟨k + 1, r, by omega, by go_num, rfl, hr32, Lib.hid hr8⟩
          case measure => simp [intOf]; omega
    · have hkn : k = n := by omega
      subst hkn
      have hall : l.take l.length = l := List.take_length
      have hmv : m = crc 4294967295 l := by rw [hv.out, ← HN.out, hall]
      have hmm := hm32.out
      have hsum : (4294967295 : Int) - ((crc 4294967295 l : Nat) : Int) = ((sumN l : Nat) : Int) := by unfold sumN; omega
      go_wp2_with fail
      go_ret
      exact ⟨by rw [← hsum]; rfl, rfl⟩
end Go.Proofs.YtcgbamkfflcdfaaDoor
