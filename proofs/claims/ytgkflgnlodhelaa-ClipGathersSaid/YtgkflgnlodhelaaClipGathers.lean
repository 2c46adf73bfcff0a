/- ClipGathers: the walk. Conditions: the numbers fit. -/
import Derived.Test.YtgkflgnlodhelaaClipK2
import Derived.Deep.RegionHeld3
import Derived.Test.YtgkflgnlodhelaaClipRP
import Derived.Test.YtgkflgnlodhelaaClipW
import Derived.Test.YtgkflgnlodhelaaOpenBl
import Derived.Test.YtgkflgnlodhelaaRefCut
import Derived.Test.YtgkflgnlodhelaaRefJoin
namespace Go.Proofs.Ytgkflgnlodhelaa
open Go.RowKit
set_option linter.unusedVariables false

theorem putB_len (k : Bk) (x : Pc) (h : k.held.length ≤ 1024) : (putB k x).1.held.length ≤ 1024 := by
  unfold putB
  split
  · exact h
  · split
    · simp
    · rename_i h2
      have h0 : refuseN k x = 0 := by
        rcases Nat.eq_zero_or_pos (refuseN k x) with h | h
        · exact h
        · exact absurd (by omega) h2
      obtain ⟨_, h3, _⟩ := refuse_ok h0
      split
      · simp
      · simpa using h3

theorem boxR_u8 {w : World} {B h n : Nat} {v r : Value} {sk : Bool} {xs : List Value} (q : BoxR w h v sk) (hr : w.ownsRow B 5 1 r n xs) : r.ownBlock ≠ some h := by
  intro e
  rcases hr.2 with ⟨rfl, _⟩ | ⟨k, cap, cur, rfl, _, hh, _⟩
  · cases e
  · simp only [Value.ownBlock, Option.some.injEq] at e
    subst e
    rw [q] at hh
    injection hh with hh
    injection hh with _ hh _
    exact absurd hh (by decide)
theorem boxK_row {w : World} {B g n : Nat} {v r : Value} {lv : Bool} {xs : List Value} (q : BoxK w g v lv) (hr : w.ownsRow B 39 3 r n xs) : r.ownBlock ≠ some g := by
  intro e
  rcases hr.2 with ⟨rfl, _⟩ | ⟨k, cap, cur, rfl, _, hh, _⟩
  · cases e
  · simp only [Value.ownBlock, Option.some.injEq] at e
    subst e
    rw [q] at hh
    injection hh with hh
    injection hh with _ hh _
    exact absurd hh (by decide)
theorem RFull.mod {w w' : World} {B h : Nat} {v : Value} {xs : List PV} {k : Bk} {S : Nat → Prop} (q : RFull w B h v xs k) (hm : Mod S w w') (h1 : ¬ S h) (h2 : ∀ i, v.ownBlock = some i → ¬ S i) (h3 : ∀ x ∈ xs, ¬ S x.b) : RFull w' B h v xs k :=
  ⟨⟨q.rin.box.mod hm h1, ownsP_mod q.rin.row hm h2, fun x hx => ⟨Bs.modne (q.rin.ins x hx).1 hm (fun _ => h3 x hx), (q.rin.ins x hx).2⟩⟩, q.full, q.held, q.away, q.none_⟩
theorem KIn.mod {w w' : World} {B g : Nat} {v : Value} {k : Bk} {S : Nat → Prop} (q : KIn w B g v k) (hm : Mod S w w') (h1 : ¬ S g) (h2 : ∀ i, v.ownBlock = some i → ¬ S i) : KIn w' B g v k :=
  ⟨q.box.mod hm h1, Row.mod q.row hm h2, q.none_⟩

set_option maxHeartbeats 8000000 in
set_option maxRecDepth 20000 in
theorem ClipGathers_walk (A : Option Addr) (bs : List PV) (m c bb : Nat) (A2 : Option Addr) (fs : List Bool) (m2 c2 bb2 : Nat) (w : World) (hs : PcsIn w bb A bs) (hl : bs.length = m) (hm : m ≤ maxLen) (hs2 : Sl w bb2 A2 (bls fs)) (hl2 : fs.length = m2) (hm2 : m2 ≤ maxLen) :
    Calls Try.prog 4 #[.slice A m c, .slice A2 m2 c2] w fun e w' => e = .returned (.bool true) ∧ Below w.heap.size w w' := by
  have HM := Lib.hid hl
  have HM2 := Lib.hid hl2
  unfold maxLen at hm hm2
  clear hl hl2
  have hmk : ∀ w : World, (Instr.makeSlice 25 (.int .i64 64) (.int .i64 64)).run Try.prog w = .ok (.slice (some ⟨w.heap.size, 0, none⟩) 64 64) (w.alloc (.cells (bv (List.replicate 64 0)).toArray 5)) := fun _ => by kernel_rfl
  have HMK := Lib.hid hmk
  clear hmk
  go_enter Try.func4, Try.ntmps4
  go_wp2_with fail
  refine (Awake_calls _).mono ?_
  rintro e w1 ⟨rfl, h1⟩
  have q0 : BoxK (w1.alloc (.cells #[.slice none 0 0, .bool false] 34)) w1.heap.size (.slice none 0 0) false := heap_alloc_new w1 _
  have r0 : BoxR ((w1.alloc (.cells #[.slice none 0 0, .bool false] 34)).alloc (.cells #[.slice none 0 0, .bool false] 46)) (w1.heap.size + 1) (.slice none 0 0) false := by
    have := heap_alloc_new (w1.alloc (.cells #[.slice none 0 0, .bool false] 34)) (.cells #[.slice none 0 0, .bool false] 46)
    rw [World.size_alloc] at this
    exact this
  have hba := below_alloc2 w1 (.cells #[.slice none 0 0, .bool false] 34) (.cells #[.slice none 0 0, .bool false] 46)
  have q1 := q0.ext (below_alloc1 _ (.cells #[.slice none 0 0, .bool false] 46))
  have hb2 := h1.trans (hba.mono h1.size)
  have hw1 := h1.size
  go_wp2_with fail
  obtain ⟨g, hg⟩ : ∃ g, g = w1.heap.size := ⟨_, rfl⟩
  obtain ⟨h, hh⟩ : ∃ h, h = w1.heap.size + 1 := ⟨_, rfl⟩
  obtain ⟨w2, hw2⟩ : ∃ w2, w2 = (w1.alloc (.cells #[.slice none 0 0, .bool false] 34)).alloc (.cells #[.slice none 0 0, .bool false] 46) := ⟨_, rfl⟩
  have hsz2 : w2.heap.size = w1.heap.size + 1 + 1 := by rw [hw2]; simp
  rw [← hh, ← hw2] at r0
  rw [← hg, ← hw2] at q1
  rw [← hw2] at hb2
  rw [← hh, ← hg, ← hw2]
  have HGH := Lib.hid (show w.heap.size ≤ g ∧ g < w2.heap.size ∧ w.heap.size ≤ h ∧ h < w2.heap.size ∧ g ≠ h by omega)
  clear hg hh hw2 hsz2 q0 hba h1 hw1
  go_loopw [21] (fun i wr => ∃ (k : Nat) (v vz : Value) (zs : List PV) (K : Bk), k ≤ m ∧ i = .int .i64 k ∧ Hid (KIn wr w2.heap.size g v K) ∧ Hid (RFull wr w2.heap.size h vz zs K) ∧ Hid (K.held.length ≤ 1024) ∧ Hid (∀ z ∈ zs, v.ownBlock ≠ some z.b ∧ z.b ≠ g) ∧ Below w.heap.size w wr ∧ w2.heap.size ≤ wr.heap.size) (fun i _ => m - (intOf i).toNat)
  case atStart => exact ⟨0, _, _, [], ⟨[], false⟩, Nat.zero_le _, rfl, Lib.hid ⟨q1, Row.nil_ _ _, fun _ => rfl⟩, Lib.hid ⟨⟨r0, World.ownsRow_nil _ _ _ _, by simp⟩, by simp, rfl, by simp, fun _ => rfl⟩, Lib.hid (by simp), Lib.hid (by simp), hb2, Nat.le_refl _⟩
  case round =>
    obtain ⟨k, v, vz, zs, K, hk, rfl, hK, hZ, hKl, hfar, hbw, hsx⟩ := hrel
    by_cases hltk : k < m
    · have hkx : k < bs.length := by rw [HM.out]; exact hltk
      obtain ⟨off, rfl, a0, a1, a2⟩ := sl_pv (Sl.below hs.1 hbw (Sl.lt hs.1 (by intro h; have := congrArg List.length h; rw [pvs_length] at this; simp at this; omega))) hkx
      by_cases h40 : 40 ≤ k
      · have h40' : 40 ≤ (k : Int) := by omega
        go_wp2_with fail
        go_ret
        exact ⟨rfl, hbw.trans ((below_alloc1 wr _).mono hbw.size)⟩
      · have h40' : ¬ 40 ≤ (k : Int) := by omega
        obtain ⟨xd, hxm⟩ := hs.2 _ (List.getElem_mem hkx)
        replace xd := Bs.modne xd (Mod.of_below hbw) (fun hne h => by have := Bs.lt xd hne; omega)
        obtain ⟨y, hy⟩ : ∃ y, y = bs[k] := ⟨_, rfl⟩
        rw [← hy] at a0 a1 a2 xd hxm
        clear hy
        have hxa := below_alloc1 wr (.cells #[.bool y.p.first, .bool y.p.last, .slice y.A y.p.data.length y.c] 36)
        have hbox := heap_alloc_new wr (.cells #[.bool y.p.first, .bool y.p.last, .slice y.A y.p.data.length y.c] 36)
        have xda := Sl.ext xd hxa
        have hcut := Cut_calls y.A y.p.data y.p.data.length y.c y.b 80 _ xda rfl hxm (by simp; omega)
        rw [show (80 : Int).toNat = 80 from rfl] at hcut
        obtain ⟨d1, hd1⟩ : ∃ d1, d1 = y.p.data.take 80 := ⟨_, rfl⟩
        have hd1l : d1.length ≤ 80 := by rw [hd1]; simp; omega
        rw [← hd1] at hcut
        clear hd1
        have b0 := (cell_of_row _ wr.heap.size 0 _ _ _ hbox).trans (show _ = some (.bool y.p.first) from rfl)
        have b2 := (cell_of_row _ wr.heap.size 2 _ _ _ hbox).trans (show _ = some (.slice y.A y.p.data.length y.c) from rfl)
        go_wp2_with fail
        refine hcut.mono ?_
        rintro e w3 ⟨v3, rfl, hr3, h3⟩
        obtain ⟨A3, c3, b3, rfl, -, -, -, hb3, hs3, ho3⟩ := hr3.sl
        have hbox3 := (h3.block _ (by simp)).trans hbox
        have f2 := frozen_of_row w3 wr.heap.size 2 _ _ hbox3
        have e2 := (cell_of_row w3 wr.heap.size 2 _ _ _ hbox3).trans (show _ = some (.slice y.A y.p.data.length y.c) from rfl)
        have hbox4 := heap_setCell_same w3 wr.heap.size 2 _ _ (.slice A3 d1.length c3) hbox3
        rw [show (#[.bool y.p.first, .bool y.p.last, .slice y.A y.p.data.length y.c] : Array Value).setIfInBounds 2 (.slice A3 d1.length c3) = #[.bool y.p.first, .bool y.p.last, .slice A3 d1.length c3] from rfl] at hbox4
        have hwr3 : Below wr.heap.size wr w3 := hxa.trans (h3.mono (by simp))
        have hw34 := Mod.setCell w3 ⟨wr.heap.size, 2, none⟩ (.slice A3 d1.length c3)
        have hwr4 : Below wr.heap.size wr (w3.setCell ⟨wr.heap.size, 2, none⟩ (.slice A3 d1.length c3)) := hwr3.trans (hw34.below hwr3.size (fun i hi e => by have e : i = wr.heap.size := e; omega))
        have hb3' : wr.heap.size + 1 ≤ b3 := by simpa using hb3
        have hs4 := Bs.modne hs3 hw34 (fun _ e => by have e : b3 = wr.heap.size := e; omega)
        have HBOX := Lib.hid hbox4
        have HW4 := Lib.hid hwr4
        have HS4 := Lib.hid hs4
        have HY := Lib.hid hxa
        clear hbox hbox3 hwr3 hw34 hb3 hs3 ho3 hr3 h3 hcut b0 b2 a0 a1 a2 xda xd hxm hbox4 hwr4 hs4 hxa
        by_cases hk2 : k < m2
        · have hkf : k < fs.length := by rw [HM2.out]; exact hk2
          have hk2x : (k : Int) < (m2 : Int) := by omega
          obtain ⟨off2, rfl, hcf⟩ := hs2 (by intro h0; have h1 := congrArg List.length h0; rw [bls_length] at h1; rw [h1] at hkf; simp at hkf)
          have hfk := hcf k (.bool fs[k]) (by simp [bls, hkf])
          obtain ⟨fk, hfe⟩ : ∃ fk, fk = fs[k] := ⟨_, rfl⟩
          rw [← hfe] at hfk
          clear hfe hcf
          have hfr := (hbw.cell (World.block_lt_of_cell? w _ hfk)).trans hfk
          have hf4 := (HW4.out.cell (World.block_lt_of_cell? wr _ hfr)).trans hfr
          clear hfk hfr
          cases fk with
          | false =>
            obtain ⟨b6, hb6s, hb6l, hb6u⟩ : ∃ b6, Bs (w3.setCell ⟨wr.heap.size, 2, none⟩ (.slice A3 d1.length c3)) b6 A3 d1 ∧ wr.heap.size ≤ b6 ∧ b6 < (w3.setCell ⟨wr.heap.size, 2, none⟩ (.slice A3 d1.length c3)).heap.size := by
              by_cases h0 : d1 = []
              · subst h0
                exact ⟨wr.heap.size, Sl.nil_ _ _ _, Nat.le_refl _, (Array.getElem?_eq_some_iff.1 HBOX.out).1⟩
              · exact ⟨b3, HS4.out, by omega, Bs.lt HS4.out h0⟩
            obtain ⟨hwg, hg2, hwh, hh2, hgh⟩ := HGH.out
            have hw4 := HW4.out
            have hw4s := hw4.size
            have hK4 := hK.out.ext hw4
            have hZ4 := hZ.out.ext hw4
            have hvlt := hK.out.row.lt
            have hzlt := World.ownsRow.lt hZ.out.rin.row
            have hPut := Put2_calls w2.heap.size g v K ⟨y.p.first, y.p.last, d1⟩ A3 c3 b6 (w3.setCell ⟨wr.heap.size, 2, none⟩ (.slice A3 d1.length c3)) hK4 hKl.out hb6s (by simp only [maxLen]; omega) (by omega)
            have c0 := (cell_of_row _ _ 0 _ _ _ HBOX.out).trans (show _ = some (.bool y.p.first) from rfl)
            have c1' := (cell_of_row _ _ 1 _ _ _ HBOX.out).trans (show _ = some (.bool y.p.last) from rfl)
            have c2' := (cell_of_row _ _ 2 _ _ _ HBOX.out).trans (show _ = some (.slice A3 d1.length c3) from rfl)
            have hv39 : ∀ i, vz.ownBlock = some i → i ≠ g ∧ v.ownBlock ≠ some i := fun i hi => ⟨fun e => boxK_row hK4.box hZ4.rin.row (by rw [hi, e]), own_apart hZ4.rin.row hK4.row (by decide) hi⟩
            have hvh : v.ownBlock ≠ some h := boxR_u8 hZ4.rin.box hK4.row
            have hP1 := putB_len K ⟨y.p.first, y.p.last, d1⟩ hKl.out
            have HV := Lib.hid (And.intro hK4 (And.intro hZ4 (And.intro hv39 (And.intro hvh (And.intro hvlt hzlt)))))
            have HP1 := Lib.hid hP1
            have HB6 := Lib.hid hb6s
            clear hK4 hZ4 hv39 hvh hvlt hzlt hP1 hb6s hw4
            go_wp2_with fail
            refine hPut.mono ?_
            rintro e w5 ⟨v5, vo5, rfl, hK5, hr5, hm5, hat5⟩
            obtain ⟨hK4, hZ4, hv39, hvh, hvlt, hzlt⟩ := HV.out
            have hbx5 := (hm5.block wr.heap.size (Nat.lt_of_le_of_lt hb6l hb6u) (fun e => by rcases e with e | e; omega; have := (hvlt _ e).2; omega)).trans HBOX.out
            have hZ5 := hZ4.mod hm5 (fun e => by rcases e with e | e; exact hgh e.symm; exact hvh e) (fun i hi e => by rcases e with e | e; exact (hv39 i hi).1 e; exact (hv39 i hi).2 e) (fun z hz e => by rcases e with e | e; exact (hfar.out z hz).2 e; exact (hfar.out z hz).1 e)
            have hs5 := Bs.modne HB6.out hm5 (fun _ e => by rcases e with e | e; omega; have := (hvlt _ e).2; omega)
            have hR := RPut_calls w2.heap.size h vz zs K ⟨y.p.first, y.p.last, d1⟩ A3 c3 b6 w5 hZ5 hKl.out hs5 (by simp only [maxLen]; omega) (Nat.le_trans (by omega) hm5.size) (by omega) (fun e => by have := (hzlt _ e).2; omega) (Nat.lt_of_lt_of_le hb6u hm5.size)
            have p0 := (cell_of_row _ _ 0 _ _ _ hbx5).trans (show _ = some (.bool y.p.first) from rfl)
            have p1 := (cell_of_row _ _ 1 _ _ _ hbx5).trans (show _ = some (.bool y.p.last) from rfl)
            have p2 := (cell_of_row _ _ 2 _ _ _ hbx5).trans (show _ = some (.slice A3 d1.length c3) from rfl)
            have HX := Lib.hid (And.intro hK5 (And.intro hr5 (And.intro hm5 (And.intro hat5 hZ5))))
            clear hK5 hr5 hm5 hat5 hZ5 hPut hbx5 c0 c1' c2' hK4 hZ4 hv39 hvh hvlt hzlt hs5
            go_wp2_with fail
            refine hR.mono ?_
            rintro e w6 ⟨vz6, zs6, vo6, rfl, hZ6, hr6, hm6, hin6⟩
            obtain ⟨hK5, hr5, hm5, hat5, hZ5⟩ := HX.out
            have hvg : ∀ i, vz.ownBlock = some i → i ≠ g := fun i hi e => boxK_row hK5.box hZ5.rin.row (by rw [hi, e])
            have hK6 := hK5.mod hm6 (fun e => by rcases e with e | e; exact hgh e; exact hvg g e rfl) (fun i hi e => by rcases e with e | e; exact boxR_u8 hZ5.rin.box hK5.row (by rw [hi, e]); exact own_apart hZ5.rin.row hK5.row (by decide) e hi)
            have hr56 := Row.mod hr5 hm6 (fun i hi e => by rcases e with e | e; exact boxR_u8 hZ5.rin.box hr5 (by rw [hi, e]); exact own_apart hZ5.rin.row hr5 (by decide) e hi)
            obtain ⟨X5, x5, y5, rfl, hx5l, hx5m, -, -, hs56, -⟩ := hr56.sl
            obtain ⟨X6, x6, y6, rfl, hx6l, hx6m, -, -, hs6, -⟩ := hr6.sl
            obtain ⟨K1, hK1⟩ : ∃ K1, K1 = (putB K ⟨y.p.first, y.p.last, d1⟩).1 := ⟨_, rfl⟩
            obtain ⟨O, hO⟩ : ∃ O, O = (putB K ⟨y.p.first, y.p.last, d1⟩).2.1 := ⟨_, rfl⟩
            obtain ⟨ok, hok⟩ : ∃ ok, ok = (putB K ⟨y.p.first, y.p.last, d1⟩).2.2.1 := ⟨_, rfl⟩
            obtain ⟨er, her⟩ : ∃ er, er = (putB K ⟨y.p.first, y.p.last, d1⟩).2.2.2 := ⟨_, rfl⟩
            rw [← hK1] at hK6 hZ6
            rw [← hO] at hs56 hs6
            rw [← hO] at hx5l hx6l
            rw [← hO, ← hok, ← her]
            have hHk := fun jj => Held_calls w2.heap.size g v5 K1 (w6.drewN jj) ⟨hK6.box, hK6.row, hK6.none_⟩
            have hRH := fun jj => RHeld_calls w2.heap.size h vz6 zs6 K1.leaving (w6.drewN jj) ⟨hZ6.rin.box, hZ6.rin.row, hZ6.rin.ins⟩ (by rw [hZ6.held]; have := HP1.out; rw [← hK1] at this; omega) (by have h1 := dataOf_len zs6 hZ6.full; have h2 := HP1.out; rw [← hK1, ← hZ6.held, h1] at h2; omega)
            have hOp := fun W (q : KIn W w2.heap.size g v5 K1) => Open_calls w2.heap.size g v5 K1 W q
            obtain ⟨hl1, hhl1⟩ : ∃ hl1, hl1 = K1.held.length := ⟨_, rfl⟩
            obtain ⟨Az, cz, bz, hvz, -, -, -, -, -, -⟩ := ownsP_sl hZ6.rin.row
            obtain ⟨zl, hzl⟩ : ∃ zl, zl = zs6.length := ⟨_, rfl⟩
            have ho1 : decide (0 < (zl : Int)) = decide (0 < hl1) := by
              have h1 := dataOf_len zs6 hZ6.full
              rw [hZ6.held] at h1
              rw [Bool.eq_iff_iff]
              simp
              omega
            rw [← hhl1] at hHk hOp
            obtain ⟨o1, ho⟩ : ∃ o1, o1 = decide (0 < hl1) := ⟨_, rfl⟩
            have ho2 : decide (0 < zl) = decide (0 < hl1) := by rw [← ho1, Bool.eq_iff_iff]; simp
            rw [← ho] at ho1 ho2 hOp
            have z0 := hZ6.rin.box.c0
            rw [hvz, ← hzl] at z0
            have hS := Same_calls X5 X6 O O O.length O.length x5 x6 y5 y6 w6.drew (Sl.drew hs56) (Sl.drew hs6) rfl rfl (Nat.le_trans hx5l hx5m) (Nat.le_trans hx6l hx6m)
            rw [show decide (O = O) = true by simp] at hS
            have HE := Lib.hid (And.intro hK6 (And.intro hZ6 (And.intro hm6 (And.intro hin6 (And.intro hm5 hat5)))))
            have HK1 := Lib.hid hK1
            have HHL := Lib.hid hhl1
            have HZZ := Lib.hid (And.intro hvz hzl)
            clear hK5 hr5 hm5 hat5 hZ5 hvg hK6 hr56 hZ6 hm6 hin6 hs56 hs6 hhl1 hK1 hO hok her hzl hvz ho hR p0 p1 p2
            go_wp2_with fail
            refine wp_region_held_drew (S := fun w0 => w0.cell? ⟨h, 0, none⟩ = some (.slice Az zl cz)) (by kernel_rfl) ?_ (fun hHeld => ?_)
            · exact z0
            refine wpAnyH_take (i := 0) (v := ?g1xv0) (by simp only [List.getElem?_toArray, List.getElem?_cons_zero]; rfl) (by kernel_rfl) (by kernel_rfl) (by kernel_rfl) (by exact fun _ _ _ h => h) (Or.inl ⟨by kernel_rfl, ?g1xy0⟩) hHeld ?_
            case g1xy0 => (intro w hSw; (try dsimp only at hSw); skip; go_simp; try (with_reducible rfl))
            try simp only [Act.put, List.setIfInBounds_toArray, List.set_cons_zero, List.set_cons_succ]
            refine wpAnyH_take (i := 1) (v := ?g1xv1) (by simp only [List.getElem?_toArray, List.getElem?_cons_succ, List.getElem?_cons_zero]; rfl) (by kernel_rfl) (by kernel_rfl) (by kernel_rfl) (by exact fun _ _ _ h => h) (Or.inl ⟨by kernel_rfl, ?g1xy1⟩) hHeld ?_
            case g1xy1 => (intro w hSw; (try dsimp only at hSw); skip; go_simp; try (with_reducible rfl))
            try simp only [Act.put, List.setIfInBounds_toArray, List.set_cons_zero, List.set_cons_succ]
            refine wpAnyH_take (i := 2) (v := ?g1xv2) (by simp only [List.getElem?_toArray, List.getElem?_cons_succ, List.getElem?_cons_zero]; rfl) (by kernel_rfl) (by kernel_rfl) (by kernel_rfl) (by exact fun _ _ _ h => h) (Or.inl ⟨by kernel_rfl, ?g1xy2⟩) hHeld ?_
            case g1xy2 => (intro w hSw; (try dsimp only at hSw); skip; go_simp; try (with_reducible rfl))
            try simp only [Act.put, List.setIfInBounds_toArray, List.set_cons_zero, List.set_cons_succ]
            refine wpAnyH_take (i := 3) (v := ?g1xv3) (by simp only [List.getElem?_toArray, List.getElem?_cons_succ, List.getElem?_cons_zero]; rfl) (by kernel_rfl) (by kernel_rfl) (by kernel_rfl) (by exact fun _ _ _ h => h) (Or.inl ⟨by kernel_rfl, ?g1xy3⟩) hHeld ?_
            case g1xy3 => (intro w hSw; (try dsimp only at hSw); skip; go_simp; try (with_reducible rfl))
            try simp only [Act.put, List.setIfInBounds_toArray, List.set_cons_zero, List.set_cons_succ]
            refine wpAnyH_take (i := 4) (v := ?g1xv4) (by simp only [List.getElem?_toArray, List.getElem?_cons_succ, List.getElem?_cons_zero]; rfl) (by kernel_rfl) (by kernel_rfl) (by kernel_rfl) (by exact fun _ _ _ h => h) (Or.inl ⟨by kernel_rfl, ?g1xy4⟩) hHeld ?_
            case g1xy4 => (intro w hSw; (try dsimp only at hSw); skip; go_simp; try (with_reducible rfl))
            try simp only [Act.put, List.setIfInBounds_toArray, List.set_cons_zero, List.set_cons_succ]
            refine wpAnyH_take (i := 5) (v := ?g1xv5) (by simp only [List.getElem?_toArray, List.getElem?_cons_succ, List.getElem?_cons_zero]; rfl) (by kernel_rfl) (by kernel_rfl) (by kernel_rfl) (by exact fun _ _ _ h => h) (Or.inl ⟨by kernel_rfl, ?g1xy5⟩) hHeld ?_
            case g1xy5 => (intro w hSw; (try dsimp only at hSw); skip; go_simp; try (with_reducible rfl))
            try simp only [Act.put, List.setIfInBounds_toArray, List.set_cons_zero, List.set_cons_succ]
            refine wpAnyH_take (i := 6) (v := ?g1xv6) (by simp only [List.getElem?_toArray, List.getElem?_cons_succ, List.getElem?_cons_zero]; rfl) (by kernel_rfl) (by kernel_rfl) (by kernel_rfl) (by exact fun _ _ _ h => h) (Or.inl ⟨by kernel_rfl, ?g1xy6⟩) hHeld ?_
            case g1xy6 => (intro w hSw; (try dsimp only at hSw); skip; go_simp; try (with_reducible rfl))
            try simp only [Act.put, List.setIfInBounds_toArray, List.set_cons_zero, List.set_cons_succ]
            refine wpAnyH_take (i := 7) (v := ?g1xv7) (by simp only [List.getElem?_toArray, List.getElem?_cons_succ, List.getElem?_cons_zero]; rfl) (by kernel_rfl) (by kernel_rfl) (by kernel_rfl) (by exact fun _ _ _ h => h) (Or.inl ⟨by kernel_rfl, ?g1xy7⟩) hHeld ?_
            case g1xy7 => (intro w hSw; (try dsimp only at hSw); skip; go_simp; try (with_reducible rfl))
            try simp only [Act.put, List.setIfInBounds_toArray, List.set_cons_zero, List.set_cons_succ]
            refine wpAnyH_take (i := 8) (v := ?g1xv8) (by simp only [List.getElem?_toArray, List.getElem?_cons_succ, List.getElem?_cons_zero]; rfl) (by kernel_rfl) (by kernel_rfl) (by kernel_rfl) (by exact fun _ _ _ h => h) (Or.inl ⟨by kernel_rfl, ?g1xy8⟩) hHeld ?_
            case g1xy8 => (intro w hSw; (try dsimp only at hSw); skip; go_simp; try (with_reducible rfl))
            try simp only [Act.put, List.setIfInBounds_toArray, List.set_cons_zero, List.set_cons_succ]
            refine wpAnyH_take (i := 9) (v := ?g1xv9) (by simp only [List.getElem?_toArray, List.getElem?_cons_succ, List.getElem?_cons_zero]; rfl) (by kernel_rfl) (by kernel_rfl) (by kernel_rfl) (by exact fun _ _ _ h => h) (Or.inl ⟨by kernel_rfl, ?g1xy9⟩) hHeld ?_
            case g1xy9 => (intro w hSw; (try dsimp only at hSw); skip; go_simp; try (with_reducible rfl))
            try simp only [Act.put, List.setIfInBounds_toArray, List.set_cons_zero, List.set_cons_succ]
            refine wpAnyH_take (i := 10) (v := ?g1xv10) (by simp only [List.getElem?_toArray, List.getElem?_cons_succ, List.getElem?_cons_zero]; rfl) (by kernel_rfl) (by kernel_rfl) (by kernel_rfl) (by exact fun _ _ _ h => h) (Or.inl ⟨by kernel_rfl, ?g1xy10⟩) hHeld ?_
            case g1xy10 => (intro w hSw; (try dsimp only at hSw); skip; go_simp; try (with_reducible rfl))
            try simp only [Act.put, List.setIfInBounds_toArray, List.set_cons_zero, List.set_cons_succ]
            refine wpAnyH_ready (rs := [11]) (by kernel_rfl) (by simp) ?_
            refine AllReadyH.cons (by simp only [List.getElem?_toArray, List.getElem?_cons_succ, List.getElem?_cons_zero]; rfl) (fun KK hKK => ?_) AllReadyH.nil
            rw [if_pos (by kernel_rfl)]
            go_simp
            refine hS.mono ?_
            rintro e w7 ⟨rfl, jj, rfl⟩
            go_wp2_with fail
            refine hKK.out _ _ ?_ (fun hHeld => ?_)
            · exact z0
            clear hKK KK
            try simp only [Act.put, List.setIfInBounds_toArray, List.set_cons_zero, List.set_cons_succ]
            refine wpAnyH_take (i := 12) (v := ?g1xv12) (by simp only [List.getElem?_toArray, List.getElem?_cons_succ, List.getElem?_cons_zero]; rfl) (by kernel_rfl) (by kernel_rfl) (by kernel_rfl) (by exact fun _ _ _ h => h) (Or.inl ⟨by kernel_rfl, ?g1xy12⟩) hHeld ?_
            case g1xy12 => (intro w hSw; (try dsimp only at hSw); skip; go_simp; try (with_reducible rfl))
            try simp only [Act.put, List.setIfInBounds_toArray, List.set_cons_zero, List.set_cons_succ]
            refine wpAnyH_take (i := 13) (v := ?g1xv13) (by simp only [List.getElem?_toArray, List.getElem?_cons_succ, List.getElem?_cons_zero]; rfl) (by kernel_rfl) (by kernel_rfl) (by kernel_rfl) (by exact fun _ _ _ h => h) (Or.inl ⟨by kernel_rfl, ?g1xy13⟩) hHeld ?_
            case g1xy13 => (intro w hSw; (try dsimp only at hSw); skip; go_simp; try (with_reducible rfl))
            try simp only [Act.put, List.setIfInBounds_toArray, List.set_cons_zero, List.set_cons_succ]
            refine wpAnyH_take (i := 14) (v := ?g1xv14) (by simp only [List.getElem?_toArray, List.getElem?_cons_succ, List.getElem?_cons_zero]; rfl) (by kernel_rfl) (by kernel_rfl) (by kernel_rfl) (by exact fun _ _ _ h => h) (Or.inl ⟨by kernel_rfl, ?g1xy14⟩) hHeld ?_
            case g1xy14 => (intro w hSw; (try dsimp only at hSw); skip; go_simp; try (with_reducible rfl))
            try simp only [Act.put, List.setIfInBounds_toArray, List.set_cons_zero, List.set_cons_succ]
            refine wpAnyH_take (i := 16) (v := ?g1xv16) (by simp only [List.getElem?_toArray, List.getElem?_cons_succ, List.getElem?_cons_zero]; rfl) (by kernel_rfl) (by kernel_rfl) (by kernel_rfl) (by exact fun _ _ _ h => h) (Or.inl ⟨by kernel_rfl, ?g1xy16⟩) hHeld ?_
            case g1xy16 => (intro w hSw; (try dsimp only at hSw); skip; go_simp; try (with_reducible rfl))
            try simp only [Act.put, List.setIfInBounds_toArray, List.set_cons_zero, List.set_cons_succ]
            refine wpAnyH_ready (rs := [15]) (by kernel_rfl) (by simp) ?_
            refine AllReadyH.cons (by simp only [List.getElem?_toArray, List.getElem?_cons_succ, List.getElem?_cons_zero]; rfl) (fun KK hKK => ?_) AllReadyH.nil
            rw [if_pos (by kernel_rfl)]
            go_simp
            refine (hHk _).mono ?_
            rintro e w8 ⟨rfl, rfl⟩
            go_wp2_with fail
            refine hKK.out _ _ ?_ (fun hHeld => ?_)
            · exact z0
            clear hKK KK
            try simp only [Act.put, List.setIfInBounds_toArray, List.set_cons_zero, List.set_cons_succ]
            refine wpAnyH_ready (rs := [17]) (by kernel_rfl) (by simp) ?_
            refine AllReadyH.cons (by simp only [List.getElem?_toArray, List.getElem?_cons_succ, List.getElem?_cons_zero]; rfl) (fun KK hKK => ?_) AllReadyH.nil
            rw [if_pos (by kernel_rfl)]
            go_simp
            refine (hRH _).mono ?_
            rintro e w9 ⟨vr, rfl, hrr, h9⟩
            obtain ⟨Ar, cr, br, rfl, -, -, -, -, -, -⟩ := hrr.sl
            rw [HE.out.2.1.held, ← HHL.out]
            have hK9 : KIn w9 w2.heap.size g v5 K1 := HE.out.1.ext (w' := w9) ⟨h9.os, h9.tape, h9.output, h9.size, h9.block⟩
            have z9 : w9.cell? ⟨h, 0, none⟩ = some (.slice Az zl cz) := by rw [(HE.out.2.1.rin.box.ext (w' := w9) ⟨h9.os, h9.tape, h9.output, h9.size, h9.block⟩).c0, HZZ.out.1, ← HZZ.out.2]
            have HK9 := Lib.hid hK9
            have H9 := Lib.hid h9
            clear hK9 hrr h9
            go_wp2_with fail
            refine hKK.out _ _ ?_ (fun hHeld => ?_)
            · exact z9
            clear hKK KK
            try simp only [Act.put, List.setIfInBounds_toArray, List.set_cons_zero, List.set_cons_succ]
            refine wpAnyH_take (i := 18) (v := ?g1xv18) (by simp only [List.getElem?_toArray, List.getElem?_cons_succ, List.getElem?_cons_zero]; rfl) (by kernel_rfl) (by kernel_rfl) (by kernel_rfl) (by exact fun _ _ _ h => h) (Or.inl ⟨by kernel_rfl, ?g1xy18⟩) hHeld ?_
            case g1xy18 => (intro w hSw; (try dsimp only at hSw); skip; go_simp; try (with_reducible rfl))
            try simp only [Act.put, List.setIfInBounds_toArray, List.set_cons_zero, List.set_cons_succ]
            refine wpAnyH_take (i := 19) (v := ?g1xv19) (by simp only [List.getElem?_toArray, List.getElem?_cons_succ, List.getElem?_cons_zero]; rfl) (by kernel_rfl) (by kernel_rfl) (by kernel_rfl) (by exact fun _ _ _ h => h) (Or.inl ⟨by kernel_rfl, ?g1xy19⟩) hHeld ?_
            case g1xy19 => (intro w hSw; (try dsimp only at hSw); skip; go_simp; try (with_reducible rfl))
            try simp only [Act.put, List.setIfInBounds_toArray, List.set_cons_zero, List.set_cons_succ]
            refine wpAnyH_take (i := 20) (v := ?g1xv20) (by simp only [List.getElem?_toArray, List.getElem?_cons_succ, List.getElem?_cons_zero]; rfl) (by kernel_rfl) (by kernel_rfl) (by kernel_rfl) (by exact fun _ _ _ h => h) (Or.inl ⟨by kernel_rfl, ?g1xy20⟩) hHeld ?_
            case g1xy20 => (intro w hSw; (try dsimp only at hSw); skip; go_simp; try (with_reducible rfl))
            try simp only [Act.put, List.setIfInBounds_toArray, List.set_cons_zero, List.set_cons_succ]
            refine wpAnyH_take (i := 21) (v := ?g1xv21) (by simp only [List.getElem?_toArray, List.getElem?_cons_succ, List.getElem?_cons_zero]; rfl) (by kernel_rfl) (by kernel_rfl) (by kernel_rfl) (by exact fun _ _ _ h => h) (Or.inl ⟨by kernel_rfl, ?g1xy21⟩) hHeld ?_
            case g1xy21 => (intro w hSw; (try dsimp only at hSw); skip; go_simp; try (with_reducible rfl))
            try simp only [Act.put, List.setIfInBounds_toArray, List.set_cons_zero, List.set_cons_succ]
            refine wpAnyH_take (i := 23) (v := ?g1xv23) (by simp only [List.getElem?_toArray, List.getElem?_cons_succ, List.getElem?_cons_zero]; rfl) (by kernel_rfl) (by kernel_rfl) (by kernel_rfl) (by exact fun _ _ _ h => h) (Or.inl ⟨by kernel_rfl, ?g1xy23⟩) hHeld ?_
            case g1xy23 => (intro w hSw; (try dsimp only at hSw); skip; go_simp; try (with_reducible rfl))
            try simp only [Act.put, List.setIfInBounds_toArray, List.set_cons_zero, List.set_cons_succ]
            refine wpAnyH_take (i := 24) (v := ?g1xv24) (by simp only [List.getElem?_toArray, List.getElem?_cons_succ, List.getElem?_cons_zero]; rfl) (by kernel_rfl) (by kernel_rfl) (by kernel_rfl) (by exact fun _ _ _ h => h) (Or.inl ⟨by kernel_rfl, ?g1xy24⟩) hHeld ?_
            case g1xy24 => (intro w hSw; (try dsimp only at hSw); skip; go_simp; try (with_reducible rfl))
            try simp only [Act.put, List.setIfInBounds_toArray, List.set_cons_zero, List.set_cons_succ]
            refine wpAnyH_take (i := 25) (v := ?g1xv25) (by simp only [List.getElem?_toArray, List.getElem?_cons_succ, List.getElem?_cons_zero]; rfl) (by kernel_rfl) (by kernel_rfl) (by kernel_rfl) (by exact fun _ _ _ h => h) (Or.inl ⟨by kernel_rfl, ?g1xy25⟩) hHeld ?_
            case g1xy25 => (intro w hSw; (try dsimp only at hSw); skip; go_simp; try (with_reducible rfl))
            try simp only [Act.put, List.setIfInBounds_toArray, List.set_cons_zero, List.set_cons_succ]
            refine wpAnyH_take (i := 26) (v := ?g1xv26) (by simp only [List.getElem?_toArray, List.getElem?_cons_succ, List.getElem?_cons_zero]; rfl) (by kernel_rfl) (by kernel_rfl) (by kernel_rfl) (by exact fun _ _ _ h => h) (Or.inl ⟨by kernel_rfl, ?g1xy26⟩) hHeld ?_
            case g1xy26 => (intro w hSw; (try dsimp only at hSw); skip; go_simp; try (with_reducible rfl))
            try simp only [Act.put, List.setIfInBounds_toArray, List.set_cons_zero, List.set_cons_succ]
            refine wpAnyH_take (i := 27) (v := ?g1xv27) (by simp only [List.getElem?_toArray, List.getElem?_cons_succ, List.getElem?_cons_zero]; rfl) (by kernel_rfl) (by kernel_rfl) (by kernel_rfl) (by exact fun _ _ _ h => h) (Or.inl ⟨by kernel_rfl, ?g1xy27⟩) hHeld ?_
            case g1xy27 => (intro w hSw; (try dsimp only at hSw); skip; go_simp; try (with_reducible rfl))
            try simp only [Act.put, List.setIfInBounds_toArray, List.set_cons_zero, List.set_cons_succ]
            refine wpAnyH_take (i := 28) (v := ?g1xv28) (by simp only [List.getElem?_toArray, List.getElem?_cons_succ, List.getElem?_cons_zero]; rfl) (by kernel_rfl) (by kernel_rfl) (by kernel_rfl) (by exact fun _ _ _ h => h) (Or.inl ⟨by kernel_rfl, ?g1xy28⟩) hHeld ?_
            case g1xy28 => (intro w hSw; (try dsimp only at hSw); skip; go_simp; try (with_reducible rfl))
            try simp only [Act.put, List.setIfInBounds_toArray, List.set_cons_zero, List.set_cons_succ]
            refine wpAnyH_ready (rs := [22]) (by kernel_rfl) (by simp) ?_
            refine AllReadyH.cons (by simp only [List.getElem?_toArray, List.getElem?_cons_succ, List.getElem?_cons_zero]; rfl) (fun KK hKK => ?_) AllReadyH.nil
            rw [if_pos (by kernel_rfl)]
            go_simp
            refine (hOp _ HK9.out).mono ?_
            rintro e w10 ⟨rfl, rfl⟩
            go_wp2_with fail
            refine hKK.out _ _ ?_ (fun hHeld => ?_)
            · exact z9
            clear hKK KK
            try simp only [Act.put, List.setIfInBounds_toArray, List.set_cons_zero, List.set_cons_succ]
            refine wpAnyH_take (i := 29) (v := ?g1xv29) (by simp only [List.getElem?_toArray, List.getElem?_cons_succ, List.getElem?_cons_zero]; rfl) (by kernel_rfl) (by kernel_rfl) (by kernel_rfl) (by exact fun _ _ _ h => h) (Or.inl ⟨by kernel_rfl, ?g1xy29⟩) hHeld ?_
            case g1xy29 => (intro w hSw; (try dsimp only at hSw); skip; go_simp; try (with_reducible rfl))
            try simp only [Act.put, List.setIfInBounds_toArray, List.set_cons_zero, List.set_cons_succ]
            refine wpAnyH_take (i := 30) (v := ?g1xv30) (by simp only [List.getElem?_toArray, List.getElem?_cons_succ, List.getElem?_cons_zero]; rfl) (by kernel_rfl) (by kernel_rfl) (by kernel_rfl) (by exact fun _ _ _ h => h) (Or.inl ⟨by kernel_rfl, ?g1xy30⟩) hHeld ?_
            case g1xy30 => (intro w hSw; (try dsimp only at hSw); skip; go_simp; try (with_reducible rfl))
            try simp only [Act.put, List.setIfInBounds_toArray, List.set_cons_zero, List.set_cons_succ]
            refine wpAnyH_done (by kernel_rfl) ?_ _
            go_wp2_with fail
            have h69 : Below w6.heap.size w6 w10 := ⟨H9.out.os, H9.out.tape, H9.out.output, H9.out.size, H9.out.block⟩
            obtain ⟨hK6, hZ6, hm6, hin6, hm5, hat5⟩ := HE.out
            have hvlt := hK.out.row.lt
            have hzlt := World.ownsRow.lt hZ.out.rin.row
            have hw4 := HW4.out
            have hfar2 : ∀ z ∈ zs6, v5.ownBlock ≠ some z.b ∧ z.b ≠ g := by
              intro z hz
              have hq : v.ownBlock ≠ some z.b ∧ z.b ≠ g ∧ z.b < (w3.setCell ⟨wr.heap.size, 2, none⟩ (.slice A3 d1.length c3)).heap.size := by
                rcases hin6 z hz with h1 | h1
                · obtain ⟨h2, h3⟩ := hfar.out z h1
                  have h4 := Bs.lt (hZ.out.rin.ins z h1).1 (by intro e; have := hZ.out.full z h1; rw [e] at this; simp at this)
                  have h5 := hw4.size
                  exact ⟨h2, h3, by omega⟩
                · rw [h1]
                  exact ⟨fun e => by have := (hvlt _ e).2; omega, by omega, hb6u⟩
              refine ⟨?_, hq.2.1⟩
              rcases hat5 with e | e | ⟨j, e, hj⟩
              · rw [e]; exact hq.1
              · rw [e]; simp
              · rw [e]; intro e2; injection e2 with e2; have := hq.2.2; omega
            have hb4 := hbw.trans (hw4.mono hbw.size)
            have hb5 := hb4.trans (hm5.below hb4.size (fun i hi e => by rcases e with e | e; omega; have := (hvlt _ e).1; omega))
            have hb6w := hb5.trans (hm6.below hb5.size (fun i hi e => by rcases e with e | e; omega; have := (hzlt _ e).1; omega))
            have hb10 := hb6w.trans (h69.mono hb6w.size)
            have s1 := hw4.size
            have s2 := hm5.size
            have s3 := hm6.size
            have s4 := h69.size
            exact ⟨⟨k + 1, v5, vz6, zs6, K1, by omega, by go_num, Lib.hid HK9.out, Lib.hid (hZ6.ext h69), Lib.hid (by rw [HK1.out]; exact HP1.out), Lib.hid hfar2, hb10, by omega⟩, by simp [intOf]; omega⟩
          | true =>
            go_wp2_with fail
            obtain ⟨W4, hW4⟩ : ∃ W4, W4 = w3.setCell ⟨wr.heap.size, 2, none⟩ (.slice A3 d1.length c3) := ⟨_, rfl⟩
            rw [← hW4] at HBOX HW4 HS4 ⊢
            clear hW4 hf4
            obtain ⟨d64, hd64⟩ : ∃ d, d = List.replicate 64 (0 : UInt8) := ⟨_, rfl⟩
            have HDL : Hid (d64.length = 64) := Lib.hid (by rw [hd64]; simp)
            have HD64 := Lib.hid hd64
            obtain ⟨J, hJ⟩ : ∃ J, J = d1 ++ d64 := ⟨_, rfl⟩
            have hJl : J.length ≤ 144 := by rw [hJ, List.length_append]; have := HDL.out; omega
            have HJ : Hid ([d1, d64].flatten = J) := Lib.hid (by simp [hJ])
            obtain ⟨d2, hd2⟩ : ∃ d2, d2 = J.take 64 := ⟨_, rfl⟩
            have hd2l : d2.length ≤ 64 := by rw [hd2]; simp; omega
            have HD2 := Lib.hid hd2
            have hbx := HBOX.out
            have hs4 := HS4.out
            have hb := HW4.out
            clear hd64 hJ hd2 HBOX HW4 HS4 HY
            refine wp_region_held_drew (S := fun w0 => wr.heap.size ≤ w0.heap.size) (by kernel_rfl) ?_ (fun hHeld => ?_)
            · exact hb.size
            obtain ⟨wd2, hwd2⟩ : ∃ wd2, wd2 = World.drew W4 := ⟨_, rfl⟩
            have h9 : Below W4.heap.size W4 wd2 := by rw [hwd2]; exact below_drew (Below.refl _ _)
            rw [← hwd2] at hHeld ⊢
            replace hbx := (h9.block _ (Array.getElem?_eq_some_iff.1 hbx).1).trans hbx
            replace hs4 := Sl.ext hs4 h9
            replace hb := hb.trans (h9.mono hb.size)
            clear h9
            clear hwd2
            refine wpAnyH_take (i := 0) (v := ?vt13) (by simp only [List.getElem?_toArray, List.getElem?_cons_zero]; rfl) (by kernel_rfl) (by kernel_rfl) (by kernel_rfl) (by exact fun _ _ _ h => h) (Or.inl ⟨by kernel_rfl, ?yt13⟩) hHeld ?_
            case yt13 => (intro ww hSw; (try dsimp only at hSw); clear hSw; go_simp; try (with_reducible rfl))
            try simp only [Act.put, List.setIfInBounds_toArray, List.set_cons_zero, List.set_cons_succ]
            refine wpAnyH_ready (rs := [1, 2]) (by kernel_rfl) (by simp) ?_
            refine AllReadyH.cons (by simp only [List.getElem?_toArray, List.getElem?_cons_succ, List.getElem?_cons_zero]; rfl) (fun KK hKK => ?_) (AllReadyH.cons (by simp only [List.getElem?_toArray, List.getElem?_cons_succ, List.getElem?_cons_zero]; rfl) (fun KK hKK => ?_) AllReadyH.nil)
            · skip
              rw [if_pos (by kernel_rfl)]
              have e4 := (cell_of_row _ _ 2 _ _ _ hbx).trans (show _ = some (.slice A3 d1.length c3) from rfl)
              go_simp
              clear e4
              refine hKK.out _ _ ?_ (fun hHeld => ?_)
              · exact hb.size
              clear hKK KK
              try simp only [Act.put, List.setIfInBounds_toArray, List.set_cons_zero, List.set_cons_succ]
              refine wpAnyH_ready (rs := [2]) (by kernel_rfl) (by simp) ?_
              refine AllReadyH.cons (by simp only [List.getElem?_toArray, List.getElem?_cons_succ, List.getElem?_cons_zero]; rfl) (fun KK hKK => ?_) AllReadyH.nil
              rw [if_pos (by kernel_rfl)]
              have hmk := HMK.out wd2
              rw [← HD64.out] at hmk
              go_simp
              clear hmk
              obtain ⟨wa4, hwa4⟩ : ∃ wa4, wa4 = wd2.alloc (.cells (bv d64).toArray 5) := ⟨_, rfl⟩
              have h9 : Below wd2.heap.size wd2 wa4 := by rw [hwa4]; exact below_alloc1 _ _
              have hs64 : Bs wa4 wd2.heap.size (some ⟨wd2.heap.size, 0, none⟩) d64 := by rw [hwa4]; simpa using Sl.cells_new wd2 (bv d64).toArray 5
              rw [← hwa4]
              clear hwa4
              replace hbx := (h9.block _ (Array.getElem?_eq_some_iff.1 hbx).1).trans hbx
              replace hs4 := Sl.ext hs4 h9
              replace hb := hb.trans (h9.mono hb.size)
              clear h9
              refine hKK.out _ _ ?_ (fun hHeld => ?_)
              · exact hb.size
              clear hKK KK
              try simp only [Act.put, List.setIfInBounds_toArray, List.set_cons_zero, List.set_cons_succ]
              refine wpAnyH_ready (rs := [3]) (by kernel_rfl) (by simp) ?_
              refine AllReadyH.cons (by simp only [List.getElem?_toArray, List.getElem?_cons_succ, List.getElem?_cons_zero]; rfl) (fun KK hKK => ?_) AllReadyH.nil
              rw [if_pos (by kernel_rfl)]
              go_simp
              obtain ⟨wa5, hwa5⟩ : ∃ wa5, wa5 = wa4.alloc (.cells #[.slice A3 d1.length c3, .slice (some ⟨wd2.heap.size, 0, none⟩) 64 64] 25) := ⟨_, rfl⟩
              have h9 : Below wa4.heap.size wa4 wa5 := by rw [hwa5]; exact below_alloc1 _ _
              have hsb : Sl wa5 wa4.heap.size (some ⟨wa4.heap.size, 0, none⟩) [.slice A3 d1.length c3, .slice (some ⟨wd2.heap.size, 0, none⟩) 64 64] := by rw [hwa5]; exact Sl.cells_new _ _ _
              rw [← hwa5]
              clear hwa5
              replace hbx := (h9.block _ (Array.getElem?_eq_some_iff.1 hbx).1).trans hbx
              replace hs4 := Sl.ext hs4 h9
              replace hs64 := Sl.ext hs64 h9
              replace hb := hb.trans (h9.mono hb.size)
              clear h9
              refine hKK.out _ _ ?_ (fun hHeld => ?_)
              · exact hb.size
              clear hKK KK
              try simp only [Act.put, List.setIfInBounds_toArray, List.set_cons_zero, List.set_cons_succ]
              refine wpAnyH_ready (rs := [4]) (by kernel_rfl) (by simp) ?_
              refine AllReadyH.cons (by simp only [List.getElem?_toArray, List.getElem?_cons_succ, List.getElem?_cons_zero]; rfl) (fun KK hKK => ?_) AllReadyH.nil
              rw [if_pos (by kernel_rfl)]
              go_simp
              (with_reducible refine (Join_calls _ [.slice A3 d1.length c3, .slice (some ⟨wd2.heap.size, 0, none⟩) 64 64] [d1, d64] 2 2 (wa4.heap.size) _ hsb (Bss.cons hs4 rfl (Bss.cons hs64 HDL.out (Bss.nil_ _))) rfl (by simp [maxLen]) (by simp; have := HDL.out; omega)).mono ?_)
              rintro e wc7 ⟨v6, rfl, hrow6, g6⟩
              replace hbx := (g6.block _ (Array.getElem?_eq_some_iff.1 hbx).1).trans hbx
              replace hs4 := Sl.ext hs4 g6
              replace hs64 := Sl.ext hs64 g6
              replace hsb := Sl.ext hsb g6
              replace hb := hb.trans (g6.mono hb.size)
              clear g6
              replace hrow6 := hrow6.cast HJ.out
              obtain ⟨A6, c6, b6j, rfl, -, -, -, -, hs6, -⟩ := hrow6.sl
              clear hrow6
              go_wp2_with fail
              refine hKK.out _ _ ?_ (fun hHeld => ?_)
              · exact hb.size
              clear hKK KK
              try simp only [Act.put, List.setIfInBounds_toArray, List.set_cons_zero, List.set_cons_succ]
              refine wpAnyH_ready (rs := [5]) (by kernel_rfl) (by simp) ?_
              refine AllReadyH.cons (by simp only [List.getElem?_toArray, List.getElem?_cons_succ, List.getElem?_cons_zero]; rfl) (fun KK hKK => ?_) AllReadyH.nil
              rw [if_pos (by kernel_rfl)]
              have hlx := (Array.getElem?_eq_some_iff.1 hbx).1
              go_simp
              (with_reducible refine (Cut_calls A6 J J.length c6 b6j 64 _ hs6 rfl (by simp only [maxLen]; omega) (by simp; omega)).mono ?_)
              rintro e wc9 ⟨v7, rfl, hrow7, g8⟩
              replace hbx := (g8.block _ (Array.getElem?_eq_some_iff.1 hbx).1).trans hbx
              replace hs4 := Sl.ext hs4 g8
              replace hs64 := Sl.ext hs64 g8
              replace hsb := Sl.ext hsb g8
              replace hs6 := Sl.ext hs6 g8
              replace hb := hb.trans (g8.mono hb.size)
              clear g8
              rw [show (64 : Int).toNat = 64 from rfl, ← HD2.out] at hrow7
              obtain ⟨A7, c7, b7, rfl, -, -, -, hB7, hs7, -⟩ := hrow7.sl
              have hb7 : wr.heap.size + 1 ≤ b7 := by omega
              clear hrow7 hB7
              go_wp2_with fail
              refine hKK.out _ _ ?_ (fun hHeld => ?_)
              · exact hb.size
              clear hKK KK
              try simp only [Act.put, List.setIfInBounds_toArray, List.set_cons_zero, List.set_cons_succ]
              refine wpAnyH_take (i := 6) (v := ?vt110) (by simp only [List.getElem?_toArray, List.getElem?_cons_succ, List.getElem?_cons_zero]; rfl) (by kernel_rfl) (by kernel_rfl) (by kernel_rfl) (by exact fun _ _ _ h => h) (Or.inl ⟨by kernel_rfl, ?yt110⟩) hHeld ?_
              case yt110 => (intro ww hSw; (try dsimp only at hSw); clear hSw; go_simp; try (with_reducible rfl))
              try simp only [Act.put, List.setIfInBounds_toArray, List.set_cons_zero, List.set_cons_succ]
              refine wpAnyH_ready (rs := [7]) (by kernel_rfl) (by simp) ?_
              refine AllReadyH.cons (by simp only [List.getElem?_toArray, List.getElem?_cons_succ, List.getElem?_cons_zero]; rfl) (fun KK hKK => ?_) AllReadyH.nil
              rw [if_pos (by kernel_rfl)]
              have e4 := (cell_of_row _ _ 2 _ _ _ hbx).trans (show _ = some (.slice A3 d1.length c3) from rfl)
              have f4 := frozen_of_row _ wr.heap.size 2 _ _ hbx
              go_simp
              clear e4 f4
              obtain ⟨ws11, hws11⟩ : ∃ ws11, ws11 = wc9.setCell ⟨wr.heap.size, 2, none⟩ (.slice A7 d2.length c7) := ⟨_, rfl⟩
              replace hbx := heap_setCell_same wc9 wr.heap.size 2 _ _ (.slice A7 d2.length c7) hbx
              rw [show (#[.bool y.p.first, .bool y.p.last, .slice A3 d1.length c3] : Array Value).setIfInBounds 2 (.slice A7 d2.length c7) = #[.bool y.p.first, .bool y.p.last, .slice A7 d2.length c7] from rfl] at hbx
              have hsm := Mod.setCell wc9 ⟨wr.heap.size, 2, none⟩ (.slice A7 d2.length c7)
              replace hs7 := Bs.modne hs7 hsm (fun _ e => by have e : b7 = wr.heap.size := e; omega)
              replace hb := hb.trans (hsm.below hb.size (fun i hi e => by have e : i = wr.heap.size := e; omega))
              rw [← hws11] at hbx hs7 hb ⊢
              clear hws11 hsm
              refine hKK.out _ _ ?_ (fun hHeld => ?_)
              · exact hb.size
              clear hKK KK
              try simp only [Act.put, List.setIfInBounds_toArray, List.set_cons_zero, List.set_cons_succ]
              refine wpAnyH_done (by kernel_rfl) ?_ _
              have HBOX := Lib.hid hbx
              have HW4 := Lib.hid hb
              have HS4 := Lib.hid hs7
              clear hbx hb hs7 hs4 hs64 hsb hs6
              obtain ⟨b6, hb6s, hb6l, hb6u⟩ : ∃ b6, Bs ws11 b6 A7 d2 ∧ wr.heap.size ≤ b6 ∧ b6 < ws11.heap.size := by
                by_cases h0 : d2 = []
                · subst h0
                  exact ⟨wr.heap.size, Sl.nil_ _ _ _, Nat.le_refl _, (Array.getElem?_eq_some_iff.1 HBOX.out).1⟩
                · exact ⟨b7, HS4.out, by omega, Bs.lt HS4.out h0⟩
              obtain ⟨hwg, hg2, hwh, hh2, hgh⟩ := HGH.out
              have hw4 := HW4.out
              have hw4s := hw4.size
              have hK4 := hK.out.ext hw4
              have hZ4 := hZ.out.ext hw4
              have hvlt := hK.out.row.lt
              have hzlt := World.ownsRow.lt hZ.out.rin.row
              have hPut := Put2_calls w2.heap.size g v K ⟨y.p.first, y.p.last, d2⟩ A7 c7 b6 ws11 hK4 hKl.out hb6s (by simp only [maxLen]; omega) (by omega)
              have c0 := (cell_of_row _ _ 0 _ _ _ HBOX.out).trans (show _ = some (.bool y.p.first) from rfl)
              have c1' := (cell_of_row _ _ 1 _ _ _ HBOX.out).trans (show _ = some (.bool y.p.last) from rfl)
              have c2' := (cell_of_row _ _ 2 _ _ _ HBOX.out).trans (show _ = some (.slice A7 d2.length c7) from rfl)
              have hv39 : ∀ i, vz.ownBlock = some i → i ≠ g ∧ v.ownBlock ≠ some i := fun i hi => ⟨fun e => boxK_row hK4.box hZ4.rin.row (by rw [hi, e]), own_apart hZ4.rin.row hK4.row (by decide) hi⟩
              have hvh : v.ownBlock ≠ some h := boxR_u8 hZ4.rin.box hK4.row
              have hP1 := putB_len K ⟨y.p.first, y.p.last, d2⟩ hKl.out
              have HV := Lib.hid (And.intro hK4 (And.intro hZ4 (And.intro hv39 (And.intro hvh (And.intro hvlt hzlt)))))
              have HP1 := Lib.hid hP1
              have HB6 := Lib.hid hb6s
              clear hK4 hZ4 hv39 hvh hvlt hzlt hP1 hb6s hw4
              go_wp2_with fail
              refine hPut.mono ?_
              rintro e w5 ⟨v5, vo5, rfl, hK5, hr5, hm5, hat5⟩
              obtain ⟨hK4, hZ4, hv39, hvh, hvlt, hzlt⟩ := HV.out
              have hbx5 := (hm5.block wr.heap.size (Nat.lt_of_le_of_lt hb6l hb6u) (fun e => by rcases e with e | e; omega; have := (hvlt _ e).2; omega)).trans HBOX.out
              have hZ5 := hZ4.mod hm5 (fun e => by rcases e with e | e; exact hgh e.symm; exact hvh e) (fun i hi e => by rcases e with e | e; exact (hv39 i hi).1 e; exact (hv39 i hi).2 e) (fun z hz e => by rcases e with e | e; exact (hfar.out z hz).2 e; exact (hfar.out z hz).1 e)
              have hs5 := Bs.modne HB6.out hm5 (fun _ e => by rcases e with e | e; omega; have := (hvlt _ e).2; omega)
              have hR := RPut_calls w2.heap.size h vz zs K ⟨y.p.first, y.p.last, d2⟩ A7 c7 b6 w5 hZ5 hKl.out hs5 (by simp only [maxLen]; omega) (Nat.le_trans (by omega) hm5.size) (by omega) (fun e => by have := (hzlt _ e).2; omega) (Nat.lt_of_lt_of_le hb6u hm5.size)
              have p0 := (cell_of_row _ _ 0 _ _ _ hbx5).trans (show _ = some (.bool y.p.first) from rfl)
              have p1 := (cell_of_row _ _ 1 _ _ _ hbx5).trans (show _ = some (.bool y.p.last) from rfl)
              have p2 := (cell_of_row _ _ 2 _ _ _ hbx5).trans (show _ = some (.slice A7 d2.length c7) from rfl)
              have HX := Lib.hid (And.intro hK5 (And.intro hr5 (And.intro hm5 (And.intro hat5 hZ5))))
              clear hK5 hr5 hm5 hat5 hZ5 hPut hbx5 c0 c1' c2' hK4 hZ4 hv39 hvh hvlt hzlt hs5
              go_wp2_with fail
              refine hR.mono ?_
              rintro e w6 ⟨vz6, zs6, vo6, rfl, hZ6, hr6, hm6, hin6⟩
              obtain ⟨hK5, hr5, hm5, hat5, hZ5⟩ := HX.out
              have hvg : ∀ i, vz.ownBlock = some i → i ≠ g := fun i hi e => boxK_row hK5.box hZ5.rin.row (by rw [hi, e])
              have hK6 := hK5.mod hm6 (fun e => by rcases e with e | e; exact hgh e; exact hvg g e rfl) (fun i hi e => by rcases e with e | e; exact boxR_u8 hZ5.rin.box hK5.row (by rw [hi, e]); exact own_apart hZ5.rin.row hK5.row (by decide) e hi)
              have hr56 := Row.mod hr5 hm6 (fun i hi e => by rcases e with e | e; exact boxR_u8 hZ5.rin.box hr5 (by rw [hi, e]); exact own_apart hZ5.rin.row hr5 (by decide) e hi)
              obtain ⟨X5, x5, y5, rfl, hx5l, hx5m, -, -, hs56, -⟩ := hr56.sl
              obtain ⟨X6, x6, y6, rfl, hx6l, hx6m, -, -, hs6, -⟩ := hr6.sl
              obtain ⟨K1, hK1⟩ : ∃ K1, K1 = (putB K ⟨y.p.first, y.p.last, d2⟩).1 := ⟨_, rfl⟩
              obtain ⟨O, hO⟩ : ∃ O, O = (putB K ⟨y.p.first, y.p.last, d2⟩).2.1 := ⟨_, rfl⟩
              obtain ⟨ok, hok⟩ : ∃ ok, ok = (putB K ⟨y.p.first, y.p.last, d2⟩).2.2.1 := ⟨_, rfl⟩
              obtain ⟨er, her⟩ : ∃ er, er = (putB K ⟨y.p.first, y.p.last, d2⟩).2.2.2 := ⟨_, rfl⟩
              rw [← hK1] at hK6 hZ6
              rw [← hO] at hs56 hs6
              rw [← hO] at hx5l hx6l
              rw [← hO, ← hok, ← her]
              have hHk := fun jj => Held_calls w2.heap.size g v5 K1 (w6.drewN jj) ⟨hK6.box, hK6.row, hK6.none_⟩
              have hRH := fun jj => RHeld_calls w2.heap.size h vz6 zs6 K1.leaving (w6.drewN jj) ⟨hZ6.rin.box, hZ6.rin.row, hZ6.rin.ins⟩ (by rw [hZ6.held]; have := HP1.out; rw [← hK1] at this; omega) (by have h1 := dataOf_len zs6 hZ6.full; have h2 := HP1.out; rw [← hK1, ← hZ6.held, h1] at h2; omega)
              have hOp := fun W (q : KIn W w2.heap.size g v5 K1) => Open_calls w2.heap.size g v5 K1 W q
              obtain ⟨hl1, hhl1⟩ : ∃ hl1, hl1 = K1.held.length := ⟨_, rfl⟩
              obtain ⟨Az, cz, bz, hvz, -, -, -, -, -, -⟩ := ownsP_sl hZ6.rin.row
              obtain ⟨zl, hzl⟩ : ∃ zl, zl = zs6.length := ⟨_, rfl⟩
              have ho1 : decide (0 < (zl : Int)) = decide (0 < hl1) := by
                have h1 := dataOf_len zs6 hZ6.full
                rw [hZ6.held] at h1
                rw [Bool.eq_iff_iff]
                simp
                omega
              rw [← hhl1] at hHk hOp
              obtain ⟨o1, ho⟩ : ∃ o1, o1 = decide (0 < hl1) := ⟨_, rfl⟩
              have ho2 : decide (0 < zl) = decide (0 < hl1) := by rw [← ho1, Bool.eq_iff_iff]; simp
              rw [← ho] at ho1 ho2 hOp
              have z0 := hZ6.rin.box.c0
              rw [hvz, ← hzl] at z0
              have hS := Same_calls X5 X6 O O O.length O.length x5 x6 y5 y6 w6.drew (Sl.drew hs56) (Sl.drew hs6) rfl rfl (Nat.le_trans hx5l hx5m) (Nat.le_trans hx6l hx6m)
              rw [show decide (O = O) = true by simp] at hS
              have HE := Lib.hid (And.intro hK6 (And.intro hZ6 (And.intro hm6 (And.intro hin6 (And.intro hm5 hat5)))))
              have HK1 := Lib.hid hK1
              have HHL := Lib.hid hhl1
              have HZZ := Lib.hid (And.intro hvz hzl)
              clear hK5 hr5 hm5 hat5 hZ5 hvg hK6 hr56 hZ6 hm6 hin6 hs56 hs6 hhl1 hK1 hO hok her hzl hvz ho hR p0 p1 p2
              go_wp2_with fail
              refine wp_region_held_drew (S := fun w0 => w0.cell? ⟨h, 0, none⟩ = some (.slice Az zl cz)) (by kernel_rfl) ?_ (fun hHeld => ?_)
              · exact z0
              refine wpAnyH_take (i := 0) (v := ?g2xv0) (by simp only [List.getElem?_toArray, List.getElem?_cons_zero]; rfl) (by kernel_rfl) (by kernel_rfl) (by kernel_rfl) (by exact fun _ _ _ h => h) (Or.inl ⟨by kernel_rfl, ?g2xy0⟩) hHeld ?_
              case g2xy0 => (intro w hSw; (try dsimp only at hSw); skip; go_simp; try (with_reducible rfl))
              try simp only [Act.put, List.setIfInBounds_toArray, List.set_cons_zero, List.set_cons_succ]
              refine wpAnyH_take (i := 1) (v := ?g2xv1) (by simp only [List.getElem?_toArray, List.getElem?_cons_succ, List.getElem?_cons_zero]; rfl) (by kernel_rfl) (by kernel_rfl) (by kernel_rfl) (by exact fun _ _ _ h => h) (Or.inl ⟨by kernel_rfl, ?g2xy1⟩) hHeld ?_
              case g2xy1 => (intro w hSw; (try dsimp only at hSw); skip; go_simp; try (with_reducible rfl))
              try simp only [Act.put, List.setIfInBounds_toArray, List.set_cons_zero, List.set_cons_succ]
              refine wpAnyH_take (i := 2) (v := ?g2xv2) (by simp only [List.getElem?_toArray, List.getElem?_cons_succ, List.getElem?_cons_zero]; rfl) (by kernel_rfl) (by kernel_rfl) (by kernel_rfl) (by exact fun _ _ _ h => h) (Or.inl ⟨by kernel_rfl, ?g2xy2⟩) hHeld ?_
              case g2xy2 => (intro w hSw; (try dsimp only at hSw); skip; go_simp; try (with_reducible rfl))
              try simp only [Act.put, List.setIfInBounds_toArray, List.set_cons_zero, List.set_cons_succ]
              refine wpAnyH_take (i := 3) (v := ?g2xv3) (by simp only [List.getElem?_toArray, List.getElem?_cons_succ, List.getElem?_cons_zero]; rfl) (by kernel_rfl) (by kernel_rfl) (by kernel_rfl) (by exact fun _ _ _ h => h) (Or.inl ⟨by kernel_rfl, ?g2xy3⟩) hHeld ?_
              case g2xy3 => (intro w hSw; (try dsimp only at hSw); skip; go_simp; try (with_reducible rfl))
              try simp only [Act.put, List.setIfInBounds_toArray, List.set_cons_zero, List.set_cons_succ]
              refine wpAnyH_take (i := 4) (v := ?g2xv4) (by simp only [List.getElem?_toArray, List.getElem?_cons_succ, List.getElem?_cons_zero]; rfl) (by kernel_rfl) (by kernel_rfl) (by kernel_rfl) (by exact fun _ _ _ h => h) (Or.inl ⟨by kernel_rfl, ?g2xy4⟩) hHeld ?_
              case g2xy4 => (intro w hSw; (try dsimp only at hSw); skip; go_simp; try (with_reducible rfl))
              try simp only [Act.put, List.setIfInBounds_toArray, List.set_cons_zero, List.set_cons_succ]
              refine wpAnyH_take (i := 5) (v := ?g2xv5) (by simp only [List.getElem?_toArray, List.getElem?_cons_succ, List.getElem?_cons_zero]; rfl) (by kernel_rfl) (by kernel_rfl) (by kernel_rfl) (by exact fun _ _ _ h => h) (Or.inl ⟨by kernel_rfl, ?g2xy5⟩) hHeld ?_
              case g2xy5 => (intro w hSw; (try dsimp only at hSw); skip; go_simp; try (with_reducible rfl))
              try simp only [Act.put, List.setIfInBounds_toArray, List.set_cons_zero, List.set_cons_succ]
              refine wpAnyH_take (i := 6) (v := ?g2xv6) (by simp only [List.getElem?_toArray, List.getElem?_cons_succ, List.getElem?_cons_zero]; rfl) (by kernel_rfl) (by kernel_rfl) (by kernel_rfl) (by exact fun _ _ _ h => h) (Or.inl ⟨by kernel_rfl, ?g2xy6⟩) hHeld ?_
              case g2xy6 => (intro w hSw; (try dsimp only at hSw); skip; go_simp; try (with_reducible rfl))
              try simp only [Act.put, List.setIfInBounds_toArray, List.set_cons_zero, List.set_cons_succ]
              refine wpAnyH_take (i := 7) (v := ?g2xv7) (by simp only [List.getElem?_toArray, List.getElem?_cons_succ, List.getElem?_cons_zero]; rfl) (by kernel_rfl) (by kernel_rfl) (by kernel_rfl) (by exact fun _ _ _ h => h) (Or.inl ⟨by kernel_rfl, ?g2xy7⟩) hHeld ?_
              case g2xy7 => (intro w hSw; (try dsimp only at hSw); skip; go_simp; try (with_reducible rfl))
              try simp only [Act.put, List.setIfInBounds_toArray, List.set_cons_zero, List.set_cons_succ]
              refine wpAnyH_take (i := 8) (v := ?g2xv8) (by simp only [List.getElem?_toArray, List.getElem?_cons_succ, List.getElem?_cons_zero]; rfl) (by kernel_rfl) (by kernel_rfl) (by kernel_rfl) (by exact fun _ _ _ h => h) (Or.inl ⟨by kernel_rfl, ?g2xy8⟩) hHeld ?_
              case g2xy8 => (intro w hSw; (try dsimp only at hSw); skip; go_simp; try (with_reducible rfl))
              try simp only [Act.put, List.setIfInBounds_toArray, List.set_cons_zero, List.set_cons_succ]
              refine wpAnyH_take (i := 9) (v := ?g2xv9) (by simp only [List.getElem?_toArray, List.getElem?_cons_succ, List.getElem?_cons_zero]; rfl) (by kernel_rfl) (by kernel_rfl) (by kernel_rfl) (by exact fun _ _ _ h => h) (Or.inl ⟨by kernel_rfl, ?g2xy9⟩) hHeld ?_
              case g2xy9 => (intro w hSw; (try dsimp only at hSw); skip; go_simp; try (with_reducible rfl))
              try simp only [Act.put, List.setIfInBounds_toArray, List.set_cons_zero, List.set_cons_succ]
              refine wpAnyH_take (i := 10) (v := ?g2xv10) (by simp only [List.getElem?_toArray, List.getElem?_cons_succ, List.getElem?_cons_zero]; rfl) (by kernel_rfl) (by kernel_rfl) (by kernel_rfl) (by exact fun _ _ _ h => h) (Or.inl ⟨by kernel_rfl, ?g2xy10⟩) hHeld ?_
              case g2xy10 => (intro w hSw; (try dsimp only at hSw); skip; go_simp; try (with_reducible rfl))
              try simp only [Act.put, List.setIfInBounds_toArray, List.set_cons_zero, List.set_cons_succ]
              refine wpAnyH_ready (rs := [11]) (by kernel_rfl) (by simp) ?_
              refine AllReadyH.cons (by simp only [List.getElem?_toArray, List.getElem?_cons_succ, List.getElem?_cons_zero]; rfl) (fun KK hKK => ?_) AllReadyH.nil
              rw [if_pos (by kernel_rfl)]
              go_simp
              refine hS.mono ?_
              rintro e w7 ⟨rfl, jj, rfl⟩
              go_wp2_with fail
              refine hKK.out _ _ ?_ (fun hHeld => ?_)
              · exact z0
              clear hKK KK
              try simp only [Act.put, List.setIfInBounds_toArray, List.set_cons_zero, List.set_cons_succ]
              refine wpAnyH_take (i := 12) (v := ?g2xv12) (by simp only [List.getElem?_toArray, List.getElem?_cons_succ, List.getElem?_cons_zero]; rfl) (by kernel_rfl) (by kernel_rfl) (by kernel_rfl) (by exact fun _ _ _ h => h) (Or.inl ⟨by kernel_rfl, ?g2xy12⟩) hHeld ?_
              case g2xy12 => (intro w hSw; (try dsimp only at hSw); skip; go_simp; try (with_reducible rfl))
              try simp only [Act.put, List.setIfInBounds_toArray, List.set_cons_zero, List.set_cons_succ]
              refine wpAnyH_take (i := 13) (v := ?g2xv13) (by simp only [List.getElem?_toArray, List.getElem?_cons_succ, List.getElem?_cons_zero]; rfl) (by kernel_rfl) (by kernel_rfl) (by kernel_rfl) (by exact fun _ _ _ h => h) (Or.inl ⟨by kernel_rfl, ?g2xy13⟩) hHeld ?_
              case g2xy13 => (intro w hSw; (try dsimp only at hSw); skip; go_simp; try (with_reducible rfl))
              try simp only [Act.put, List.setIfInBounds_toArray, List.set_cons_zero, List.set_cons_succ]
              refine wpAnyH_take (i := 14) (v := ?g2xv14) (by simp only [List.getElem?_toArray, List.getElem?_cons_succ, List.getElem?_cons_zero]; rfl) (by kernel_rfl) (by kernel_rfl) (by kernel_rfl) (by exact fun _ _ _ h => h) (Or.inl ⟨by kernel_rfl, ?g2xy14⟩) hHeld ?_
              case g2xy14 => (intro w hSw; (try dsimp only at hSw); skip; go_simp; try (with_reducible rfl))
              try simp only [Act.put, List.setIfInBounds_toArray, List.set_cons_zero, List.set_cons_succ]
              refine wpAnyH_take (i := 16) (v := ?g2xv16) (by simp only [List.getElem?_toArray, List.getElem?_cons_succ, List.getElem?_cons_zero]; rfl) (by kernel_rfl) (by kernel_rfl) (by kernel_rfl) (by exact fun _ _ _ h => h) (Or.inl ⟨by kernel_rfl, ?g2xy16⟩) hHeld ?_
              case g2xy16 => (intro w hSw; (try dsimp only at hSw); skip; go_simp; try (with_reducible rfl))
              try simp only [Act.put, List.setIfInBounds_toArray, List.set_cons_zero, List.set_cons_succ]
              refine wpAnyH_ready (rs := [15]) (by kernel_rfl) (by simp) ?_
              refine AllReadyH.cons (by simp only [List.getElem?_toArray, List.getElem?_cons_succ, List.getElem?_cons_zero]; rfl) (fun KK hKK => ?_) AllReadyH.nil
              rw [if_pos (by kernel_rfl)]
              go_simp
              refine (hHk _).mono ?_
              rintro e w8 ⟨rfl, rfl⟩
              go_wp2_with fail
              refine hKK.out _ _ ?_ (fun hHeld => ?_)
              · exact z0
              clear hKK KK
              try simp only [Act.put, List.setIfInBounds_toArray, List.set_cons_zero, List.set_cons_succ]
              refine wpAnyH_ready (rs := [17]) (by kernel_rfl) (by simp) ?_
              refine AllReadyH.cons (by simp only [List.getElem?_toArray, List.getElem?_cons_succ, List.getElem?_cons_zero]; rfl) (fun KK hKK => ?_) AllReadyH.nil
              rw [if_pos (by kernel_rfl)]
              go_simp
              refine (hRH _).mono ?_
              rintro e w9 ⟨vr, rfl, hrr, h9⟩
              obtain ⟨Ar, cr, br, rfl, -, -, -, -, -, -⟩ := hrr.sl
              rw [HE.out.2.1.held, ← HHL.out]
              have hK9 : KIn w9 w2.heap.size g v5 K1 := HE.out.1.ext (w' := w9) ⟨h9.os, h9.tape, h9.output, h9.size, h9.block⟩
              have z9 : w9.cell? ⟨h, 0, none⟩ = some (.slice Az zl cz) := by rw [(HE.out.2.1.rin.box.ext (w' := w9) ⟨h9.os, h9.tape, h9.output, h9.size, h9.block⟩).c0, HZZ.out.1, ← HZZ.out.2]
              have HK9 := Lib.hid hK9
              have H9 := Lib.hid h9
              clear hK9 hrr h9
              go_wp2_with fail
              refine hKK.out _ _ ?_ (fun hHeld => ?_)
              · exact z9
              clear hKK KK
              try simp only [Act.put, List.setIfInBounds_toArray, List.set_cons_zero, List.set_cons_succ]
              refine wpAnyH_take (i := 18) (v := ?g2xv18) (by simp only [List.getElem?_toArray, List.getElem?_cons_succ, List.getElem?_cons_zero]; rfl) (by kernel_rfl) (by kernel_rfl) (by kernel_rfl) (by exact fun _ _ _ h => h) (Or.inl ⟨by kernel_rfl, ?g2xy18⟩) hHeld ?_
              case g2xy18 => (intro w hSw; (try dsimp only at hSw); skip; go_simp; try (with_reducible rfl))
              try simp only [Act.put, List.setIfInBounds_toArray, List.set_cons_zero, List.set_cons_succ]
              refine wpAnyH_take (i := 19) (v := ?g2xv19) (by simp only [List.getElem?_toArray, List.getElem?_cons_succ, List.getElem?_cons_zero]; rfl) (by kernel_rfl) (by kernel_rfl) (by kernel_rfl) (by exact fun _ _ _ h => h) (Or.inl ⟨by kernel_rfl, ?g2xy19⟩) hHeld ?_
              case g2xy19 => (intro w hSw; (try dsimp only at hSw); skip; go_simp; try (with_reducible rfl))
              try simp only [Act.put, List.setIfInBounds_toArray, List.set_cons_zero, List.set_cons_succ]
              refine wpAnyH_take (i := 20) (v := ?g2xv20) (by simp only [List.getElem?_toArray, List.getElem?_cons_succ, List.getElem?_cons_zero]; rfl) (by kernel_rfl) (by kernel_rfl) (by kernel_rfl) (by exact fun _ _ _ h => h) (Or.inl ⟨by kernel_rfl, ?g2xy20⟩) hHeld ?_
              case g2xy20 => (intro w hSw; (try dsimp only at hSw); skip; go_simp; try (with_reducible rfl))
              try simp only [Act.put, List.setIfInBounds_toArray, List.set_cons_zero, List.set_cons_succ]
              refine wpAnyH_take (i := 21) (v := ?g2xv21) (by simp only [List.getElem?_toArray, List.getElem?_cons_succ, List.getElem?_cons_zero]; rfl) (by kernel_rfl) (by kernel_rfl) (by kernel_rfl) (by exact fun _ _ _ h => h) (Or.inl ⟨by kernel_rfl, ?g2xy21⟩) hHeld ?_
              case g2xy21 => (intro w hSw; (try dsimp only at hSw); skip; go_simp; try (with_reducible rfl))
              try simp only [Act.put, List.setIfInBounds_toArray, List.set_cons_zero, List.set_cons_succ]
              refine wpAnyH_take (i := 23) (v := ?g2xv23) (by simp only [List.getElem?_toArray, List.getElem?_cons_succ, List.getElem?_cons_zero]; rfl) (by kernel_rfl) (by kernel_rfl) (by kernel_rfl) (by exact fun _ _ _ h => h) (Or.inl ⟨by kernel_rfl, ?g2xy23⟩) hHeld ?_
              case g2xy23 => (intro w hSw; (try dsimp only at hSw); skip; go_simp; try (with_reducible rfl))
              try simp only [Act.put, List.setIfInBounds_toArray, List.set_cons_zero, List.set_cons_succ]
              refine wpAnyH_take (i := 24) (v := ?g2xv24) (by simp only [List.getElem?_toArray, List.getElem?_cons_succ, List.getElem?_cons_zero]; rfl) (by kernel_rfl) (by kernel_rfl) (by kernel_rfl) (by exact fun _ _ _ h => h) (Or.inl ⟨by kernel_rfl, ?g2xy24⟩) hHeld ?_
              case g2xy24 => (intro w hSw; (try dsimp only at hSw); skip; go_simp; try (with_reducible rfl))
              try simp only [Act.put, List.setIfInBounds_toArray, List.set_cons_zero, List.set_cons_succ]
              refine wpAnyH_take (i := 25) (v := ?g2xv25) (by simp only [List.getElem?_toArray, List.getElem?_cons_succ, List.getElem?_cons_zero]; rfl) (by kernel_rfl) (by kernel_rfl) (by kernel_rfl) (by exact fun _ _ _ h => h) (Or.inl ⟨by kernel_rfl, ?g2xy25⟩) hHeld ?_
              case g2xy25 => (intro w hSw; (try dsimp only at hSw); skip; go_simp; try (with_reducible rfl))
              try simp only [Act.put, List.setIfInBounds_toArray, List.set_cons_zero, List.set_cons_succ]
              refine wpAnyH_take (i := 26) (v := ?g2xv26) (by simp only [List.getElem?_toArray, List.getElem?_cons_succ, List.getElem?_cons_zero]; rfl) (by kernel_rfl) (by kernel_rfl) (by kernel_rfl) (by exact fun _ _ _ h => h) (Or.inl ⟨by kernel_rfl, ?g2xy26⟩) hHeld ?_
              case g2xy26 => (intro w hSw; (try dsimp only at hSw); skip; go_simp; try (with_reducible rfl))
              try simp only [Act.put, List.setIfInBounds_toArray, List.set_cons_zero, List.set_cons_succ]
              refine wpAnyH_take (i := 27) (v := ?g2xv27) (by simp only [List.getElem?_toArray, List.getElem?_cons_succ, List.getElem?_cons_zero]; rfl) (by kernel_rfl) (by kernel_rfl) (by kernel_rfl) (by exact fun _ _ _ h => h) (Or.inl ⟨by kernel_rfl, ?g2xy27⟩) hHeld ?_
              case g2xy27 => (intro w hSw; (try dsimp only at hSw); skip; go_simp; try (with_reducible rfl))
              try simp only [Act.put, List.setIfInBounds_toArray, List.set_cons_zero, List.set_cons_succ]
              refine wpAnyH_take (i := 28) (v := ?g2xv28) (by simp only [List.getElem?_toArray, List.getElem?_cons_succ, List.getElem?_cons_zero]; rfl) (by kernel_rfl) (by kernel_rfl) (by kernel_rfl) (by exact fun _ _ _ h => h) (Or.inl ⟨by kernel_rfl, ?g2xy28⟩) hHeld ?_
              case g2xy28 => (intro w hSw; (try dsimp only at hSw); skip; go_simp; try (with_reducible rfl))
              try simp only [Act.put, List.setIfInBounds_toArray, List.set_cons_zero, List.set_cons_succ]
              refine wpAnyH_ready (rs := [22]) (by kernel_rfl) (by simp) ?_
              refine AllReadyH.cons (by simp only [List.getElem?_toArray, List.getElem?_cons_succ, List.getElem?_cons_zero]; rfl) (fun KK hKK => ?_) AllReadyH.nil
              rw [if_pos (by kernel_rfl)]
              go_simp
              refine (hOp _ HK9.out).mono ?_
              rintro e w10 ⟨rfl, rfl⟩
              go_wp2_with fail
              refine hKK.out _ _ ?_ (fun hHeld => ?_)
              · exact z9
              clear hKK KK
              try simp only [Act.put, List.setIfInBounds_toArray, List.set_cons_zero, List.set_cons_succ]
              refine wpAnyH_take (i := 29) (v := ?g2xv29) (by simp only [List.getElem?_toArray, List.getElem?_cons_succ, List.getElem?_cons_zero]; rfl) (by kernel_rfl) (by kernel_rfl) (by kernel_rfl) (by exact fun _ _ _ h => h) (Or.inl ⟨by kernel_rfl, ?g2xy29⟩) hHeld ?_
              case g2xy29 => (intro w hSw; (try dsimp only at hSw); skip; go_simp; try (with_reducible rfl))
              try simp only [Act.put, List.setIfInBounds_toArray, List.set_cons_zero, List.set_cons_succ]
              refine wpAnyH_take (i := 30) (v := ?g2xv30) (by simp only [List.getElem?_toArray, List.getElem?_cons_succ, List.getElem?_cons_zero]; rfl) (by kernel_rfl) (by kernel_rfl) (by kernel_rfl) (by exact fun _ _ _ h => h) (Or.inl ⟨by kernel_rfl, ?g2xy30⟩) hHeld ?_
              case g2xy30 => (intro w hSw; (try dsimp only at hSw); skip; go_simp; try (with_reducible rfl))
              try simp only [Act.put, List.setIfInBounds_toArray, List.set_cons_zero, List.set_cons_succ]
              refine wpAnyH_done (by kernel_rfl) ?_ _
              go_wp2_with fail
              have h69 : Below w6.heap.size w6 w10 := ⟨H9.out.os, H9.out.tape, H9.out.output, H9.out.size, H9.out.block⟩
              obtain ⟨hK6, hZ6, hm6, hin6, hm5, hat5⟩ := HE.out
              have hvlt := hK.out.row.lt
              have hzlt := World.ownsRow.lt hZ.out.rin.row
              have hw4 := HW4.out
              have hfar2 : ∀ z ∈ zs6, v5.ownBlock ≠ some z.b ∧ z.b ≠ g := by
                intro z hz
                have hq : v.ownBlock ≠ some z.b ∧ z.b ≠ g ∧ z.b < ws11.heap.size := by
                  rcases hin6 z hz with h1 | h1
                  · obtain ⟨h2, h3⟩ := hfar.out z h1
                    have h4 := Bs.lt (hZ.out.rin.ins z h1).1 (by intro e; have := hZ.out.full z h1; rw [e] at this; simp at this)
                    have h5 := hw4.size
                    exact ⟨h2, h3, by omega⟩
                  · rw [h1]
                    exact ⟨fun e => by have := (hvlt _ e).2; omega, by omega, hb6u⟩
                refine ⟨?_, hq.2.1⟩
                rcases hat5 with e | e | ⟨j, e, hj⟩
                · rw [e]; exact hq.1
                · rw [e]; simp
                · rw [e]; intro e2; injection e2 with e2; have := hq.2.2; omega
              have hb4 := hbw.trans (hw4.mono hbw.size)
              have hb5 := hb4.trans (hm5.below hb4.size (fun i hi e => by rcases e with e | e; omega; have := (hvlt _ e).1; omega))
              have hb6w := hb5.trans (hm6.below hb5.size (fun i hi e => by rcases e with e | e; omega; have := (hzlt _ e).1; omega))
              have hb10 := hb6w.trans (h69.mono hb6w.size)
              have s1 := hw4.size
              have s2 := hm5.size
              have s3 := hm6.size
              have s4 := h69.size
              exact ⟨⟨k + 1, v5, vz6, zs6, K1, by omega, by go_num, Lib.hid HK9.out, Lib.hid (hZ6.ext h69), Lib.hid (by rw [HK1.out]; exact HP1.out), Lib.hid hfar2, hb10, by omega⟩, by simp [intOf]; omega⟩
            · skip
              rw [if_pos (by kernel_rfl)]
              have hmk := HMK.out wd2
              rw [← HD64.out] at hmk
              go_simp
              clear hmk
              obtain ⟨wa12, hwa12⟩ : ∃ wa12, wa12 = wd2.alloc (.cells (bv d64).toArray 5) := ⟨_, rfl⟩
              have h9 : Below wd2.heap.size wd2 wa12 := by rw [hwa12]; exact below_alloc1 _ _
              have hs64 : Bs wa12 wd2.heap.size (some ⟨wd2.heap.size, 0, none⟩) d64 := by rw [hwa12]; simpa using Sl.cells_new wd2 (bv d64).toArray 5
              rw [← hwa12]
              clear hwa12
              replace hbx := (h9.block _ (Array.getElem?_eq_some_iff.1 hbx).1).trans hbx
              replace hs4 := Sl.ext hs4 h9
              replace hb := hb.trans (h9.mono hb.size)
              clear h9
              refine hKK.out _ _ ?_ (fun hHeld => ?_)
              · exact hb.size
              clear hKK KK
              try simp only [Act.put, List.setIfInBounds_toArray, List.set_cons_zero, List.set_cons_succ]
              refine wpAnyH_ready (rs := [1]) (by kernel_rfl) (by simp) ?_
              refine AllReadyH.cons (by simp only [List.getElem?_toArray, List.getElem?_cons_succ, List.getElem?_cons_zero]; rfl) (fun KK hKK => ?_) AllReadyH.nil
              rw [if_pos (by kernel_rfl)]
              have e4 := (cell_of_row _ _ 2 _ _ _ hbx).trans (show _ = some (.slice A3 d1.length c3) from rfl)
              go_simp
              clear e4
              refine hKK.out _ _ ?_ (fun hHeld => ?_)
              · exact hb.size
              clear hKK KK
              try simp only [Act.put, List.setIfInBounds_toArray, List.set_cons_zero, List.set_cons_succ]
              refine wpAnyH_ready (rs := [3]) (by kernel_rfl) (by simp) ?_
              refine AllReadyH.cons (by simp only [List.getElem?_toArray, List.getElem?_cons_succ, List.getElem?_cons_zero]; rfl) (fun KK hKK => ?_) AllReadyH.nil
              rw [if_pos (by kernel_rfl)]
              go_simp
              obtain ⟨wa13, hwa13⟩ : ∃ wa13, wa13 = wa12.alloc (.cells #[.slice A3 d1.length c3, .slice (some ⟨wd2.heap.size, 0, none⟩) 64 64] 25) := ⟨_, rfl⟩
              have h9 : Below wa12.heap.size wa12 wa13 := by rw [hwa13]; exact below_alloc1 _ _
              have hsb : Sl wa13 wa12.heap.size (some ⟨wa12.heap.size, 0, none⟩) [.slice A3 d1.length c3, .slice (some ⟨wd2.heap.size, 0, none⟩) 64 64] := by rw [hwa13]; exact Sl.cells_new _ _ _
              rw [← hwa13]
              clear hwa13
              replace hbx := (h9.block _ (Array.getElem?_eq_some_iff.1 hbx).1).trans hbx
              replace hs4 := Sl.ext hs4 h9
              replace hs64 := Sl.ext hs64 h9
              replace hb := hb.trans (h9.mono hb.size)
              clear h9
              refine hKK.out _ _ ?_ (fun hHeld => ?_)
              · exact hb.size
              clear hKK KK
              try simp only [Act.put, List.setIfInBounds_toArray, List.set_cons_zero, List.set_cons_succ]
              refine wpAnyH_ready (rs := [4]) (by kernel_rfl) (by simp) ?_
              refine AllReadyH.cons (by simp only [List.getElem?_toArray, List.getElem?_cons_succ, List.getElem?_cons_zero]; rfl) (fun KK hKK => ?_) AllReadyH.nil
              rw [if_pos (by kernel_rfl)]
              go_simp
              (with_reducible refine (Join_calls _ [.slice A3 d1.length c3, .slice (some ⟨wd2.heap.size, 0, none⟩) 64 64] [d1, d64] 2 2 (wa12.heap.size) _ hsb (Bss.cons hs4 rfl (Bss.cons hs64 HDL.out (Bss.nil_ _))) rfl (by simp [maxLen]) (by simp; have := HDL.out; omega)).mono ?_)
              rintro e wc15 ⟨v6, rfl, hrow6, g14⟩
              replace hbx := (g14.block _ (Array.getElem?_eq_some_iff.1 hbx).1).trans hbx
              replace hs4 := Sl.ext hs4 g14
              replace hs64 := Sl.ext hs64 g14
              replace hsb := Sl.ext hsb g14
              replace hb := hb.trans (g14.mono hb.size)
              clear g14
              replace hrow6 := hrow6.cast HJ.out
              obtain ⟨A6, c6, b6j, rfl, -, -, -, -, hs6, -⟩ := hrow6.sl
              clear hrow6
              go_wp2_with fail
              refine hKK.out _ _ ?_ (fun hHeld => ?_)
              · exact hb.size
              clear hKK KK
              try simp only [Act.put, List.setIfInBounds_toArray, List.set_cons_zero, List.set_cons_succ]
              refine wpAnyH_ready (rs := [5]) (by kernel_rfl) (by simp) ?_
              refine AllReadyH.cons (by simp only [List.getElem?_toArray, List.getElem?_cons_succ, List.getElem?_cons_zero]; rfl) (fun KK hKK => ?_) AllReadyH.nil
              rw [if_pos (by kernel_rfl)]
              have hlx := (Array.getElem?_eq_some_iff.1 hbx).1
              go_simp
              (with_reducible refine (Cut_calls A6 J J.length c6 b6j 64 _ hs6 rfl (by simp only [maxLen]; omega) (by simp; omega)).mono ?_)
              rintro e wc17 ⟨v7, rfl, hrow7, g16⟩
              replace hbx := (g16.block _ (Array.getElem?_eq_some_iff.1 hbx).1).trans hbx
              replace hs4 := Sl.ext hs4 g16
              replace hs64 := Sl.ext hs64 g16
              replace hsb := Sl.ext hsb g16
              replace hs6 := Sl.ext hs6 g16
              replace hb := hb.trans (g16.mono hb.size)
              clear g16
              rw [show (64 : Int).toNat = 64 from rfl, ← HD2.out] at hrow7
              obtain ⟨A7, c7, b7, rfl, -, -, -, hB7, hs7, -⟩ := hrow7.sl
              have hb7 : wr.heap.size + 1 ≤ b7 := by omega
              clear hrow7 hB7
              go_wp2_with fail
              refine hKK.out _ _ ?_ (fun hHeld => ?_)
              · exact hb.size
              clear hKK KK
              try simp only [Act.put, List.setIfInBounds_toArray, List.set_cons_zero, List.set_cons_succ]
              refine wpAnyH_take (i := 6) (v := ?vt118) (by simp only [List.getElem?_toArray, List.getElem?_cons_succ, List.getElem?_cons_zero]; rfl) (by kernel_rfl) (by kernel_rfl) (by kernel_rfl) (by exact fun _ _ _ h => h) (Or.inl ⟨by kernel_rfl, ?yt118⟩) hHeld ?_
              case yt118 => (intro ww hSw; (try dsimp only at hSw); clear hSw; go_simp; try (with_reducible rfl))
              try simp only [Act.put, List.setIfInBounds_toArray, List.set_cons_zero, List.set_cons_succ]
              refine wpAnyH_ready (rs := [7]) (by kernel_rfl) (by simp) ?_
              refine AllReadyH.cons (by simp only [List.getElem?_toArray, List.getElem?_cons_succ, List.getElem?_cons_zero]; rfl) (fun KK hKK => ?_) AllReadyH.nil
              rw [if_pos (by kernel_rfl)]
              have e4 := (cell_of_row _ _ 2 _ _ _ hbx).trans (show _ = some (.slice A3 d1.length c3) from rfl)
              have f4 := frozen_of_row _ wr.heap.size 2 _ _ hbx
              go_simp
              clear e4 f4
              obtain ⟨ws19, hws19⟩ : ∃ ws19, ws19 = wc17.setCell ⟨wr.heap.size, 2, none⟩ (.slice A7 d2.length c7) := ⟨_, rfl⟩
              replace hbx := heap_setCell_same wc17 wr.heap.size 2 _ _ (.slice A7 d2.length c7) hbx
              rw [show (#[.bool y.p.first, .bool y.p.last, .slice A3 d1.length c3] : Array Value).setIfInBounds 2 (.slice A7 d2.length c7) = #[.bool y.p.first, .bool y.p.last, .slice A7 d2.length c7] from rfl] at hbx
              have hsm := Mod.setCell wc17 ⟨wr.heap.size, 2, none⟩ (.slice A7 d2.length c7)
              replace hs7 := Bs.modne hs7 hsm (fun _ e => by have e : b7 = wr.heap.size := e; omega)
              replace hb := hb.trans (hsm.below hb.size (fun i hi e => by have e : i = wr.heap.size := e; omega))
              rw [← hws19] at hbx hs7 hb ⊢
              clear hws19 hsm
              refine hKK.out _ _ ?_ (fun hHeld => ?_)
              · exact hb.size
              clear hKK KK
              try simp only [Act.put, List.setIfInBounds_toArray, List.set_cons_zero, List.set_cons_succ]
              refine wpAnyH_done (by kernel_rfl) ?_ _
              have HBOX := Lib.hid hbx
              have HW4 := Lib.hid hb
              have HS4 := Lib.hid hs7
              clear hbx hb hs7 hs4 hs64 hsb hs6
              obtain ⟨b6, hb6s, hb6l, hb6u⟩ : ∃ b6, Bs ws19 b6 A7 d2 ∧ wr.heap.size ≤ b6 ∧ b6 < ws19.heap.size := by
                by_cases h0 : d2 = []
                · subst h0
                  exact ⟨wr.heap.size, Sl.nil_ _ _ _, Nat.le_refl _, (Array.getElem?_eq_some_iff.1 HBOX.out).1⟩
                · exact ⟨b7, HS4.out, by omega, Bs.lt HS4.out h0⟩
              obtain ⟨hwg, hg2, hwh, hh2, hgh⟩ := HGH.out
              have hw4 := HW4.out
              have hw4s := hw4.size
              have hK4 := hK.out.ext hw4
              have hZ4 := hZ.out.ext hw4
              have hvlt := hK.out.row.lt
              have hzlt := World.ownsRow.lt hZ.out.rin.row
              have hPut := Put2_calls w2.heap.size g v K ⟨y.p.first, y.p.last, d2⟩ A7 c7 b6 ws19 hK4 hKl.out hb6s (by simp only [maxLen]; omega) (by omega)
              have c0 := (cell_of_row _ _ 0 _ _ _ HBOX.out).trans (show _ = some (.bool y.p.first) from rfl)
              have c1' := (cell_of_row _ _ 1 _ _ _ HBOX.out).trans (show _ = some (.bool y.p.last) from rfl)
              have c2' := (cell_of_row _ _ 2 _ _ _ HBOX.out).trans (show _ = some (.slice A7 d2.length c7) from rfl)
              have hv39 : ∀ i, vz.ownBlock = some i → i ≠ g ∧ v.ownBlock ≠ some i := fun i hi => ⟨fun e => boxK_row hK4.box hZ4.rin.row (by rw [hi, e]), own_apart hZ4.rin.row hK4.row (by decide) hi⟩
              have hvh : v.ownBlock ≠ some h := boxR_u8 hZ4.rin.box hK4.row
              have hP1 := putB_len K ⟨y.p.first, y.p.last, d2⟩ hKl.out
              have HV := Lib.hid (And.intro hK4 (And.intro hZ4 (And.intro hv39 (And.intro hvh (And.intro hvlt hzlt)))))
              have HP1 := Lib.hid hP1
              have HB6 := Lib.hid hb6s
              clear hK4 hZ4 hv39 hvh hvlt hzlt hP1 hb6s hw4
              go_wp2_with fail
              refine hPut.mono ?_
              rintro e w5 ⟨v5, vo5, rfl, hK5, hr5, hm5, hat5⟩
              obtain ⟨hK4, hZ4, hv39, hvh, hvlt, hzlt⟩ := HV.out
              have hbx5 := (hm5.block wr.heap.size (Nat.lt_of_le_of_lt hb6l hb6u) (fun e => by rcases e with e | e; omega; have := (hvlt _ e).2; omega)).trans HBOX.out
              have hZ5 := hZ4.mod hm5 (fun e => by rcases e with e | e; exact hgh e.symm; exact hvh e) (fun i hi e => by rcases e with e | e; exact (hv39 i hi).1 e; exact (hv39 i hi).2 e) (fun z hz e => by rcases e with e | e; exact (hfar.out z hz).2 e; exact (hfar.out z hz).1 e)
              have hs5 := Bs.modne HB6.out hm5 (fun _ e => by rcases e with e | e; omega; have := (hvlt _ e).2; omega)
              have hR := RPut_calls w2.heap.size h vz zs K ⟨y.p.first, y.p.last, d2⟩ A7 c7 b6 w5 hZ5 hKl.out hs5 (by simp only [maxLen]; omega) (Nat.le_trans (by omega) hm5.size) (by omega) (fun e => by have := (hzlt _ e).2; omega) (Nat.lt_of_lt_of_le hb6u hm5.size)
              have p0 := (cell_of_row _ _ 0 _ _ _ hbx5).trans (show _ = some (.bool y.p.first) from rfl)
              have p1 := (cell_of_row _ _ 1 _ _ _ hbx5).trans (show _ = some (.bool y.p.last) from rfl)
              have p2 := (cell_of_row _ _ 2 _ _ _ hbx5).trans (show _ = some (.slice A7 d2.length c7) from rfl)
              have HX := Lib.hid (And.intro hK5 (And.intro hr5 (And.intro hm5 (And.intro hat5 hZ5))))
              clear hK5 hr5 hm5 hat5 hZ5 hPut hbx5 c0 c1' c2' hK4 hZ4 hv39 hvh hvlt hzlt hs5
              go_wp2_with fail
              refine hR.mono ?_
              rintro e w6 ⟨vz6, zs6, vo6, rfl, hZ6, hr6, hm6, hin6⟩
              obtain ⟨hK5, hr5, hm5, hat5, hZ5⟩ := HX.out
              have hvg : ∀ i, vz.ownBlock = some i → i ≠ g := fun i hi e => boxK_row hK5.box hZ5.rin.row (by rw [hi, e])
              have hK6 := hK5.mod hm6 (fun e => by rcases e with e | e; exact hgh e; exact hvg g e rfl) (fun i hi e => by rcases e with e | e; exact boxR_u8 hZ5.rin.box hK5.row (by rw [hi, e]); exact own_apart hZ5.rin.row hK5.row (by decide) e hi)
              have hr56 := Row.mod hr5 hm6 (fun i hi e => by rcases e with e | e; exact boxR_u8 hZ5.rin.box hr5 (by rw [hi, e]); exact own_apart hZ5.rin.row hr5 (by decide) e hi)
              obtain ⟨X5, x5, y5, rfl, hx5l, hx5m, -, -, hs56, -⟩ := hr56.sl
              obtain ⟨X6, x6, y6, rfl, hx6l, hx6m, -, -, hs6, -⟩ := hr6.sl
              obtain ⟨K1, hK1⟩ : ∃ K1, K1 = (putB K ⟨y.p.first, y.p.last, d2⟩).1 := ⟨_, rfl⟩
              obtain ⟨O, hO⟩ : ∃ O, O = (putB K ⟨y.p.first, y.p.last, d2⟩).2.1 := ⟨_, rfl⟩
              obtain ⟨ok, hok⟩ : ∃ ok, ok = (putB K ⟨y.p.first, y.p.last, d2⟩).2.2.1 := ⟨_, rfl⟩
              obtain ⟨er, her⟩ : ∃ er, er = (putB K ⟨y.p.first, y.p.last, d2⟩).2.2.2 := ⟨_, rfl⟩
              rw [← hK1] at hK6 hZ6
              rw [← hO] at hs56 hs6
              rw [← hO] at hx5l hx6l
              rw [← hO, ← hok, ← her]
              have hHk := fun jj => Held_calls w2.heap.size g v5 K1 (w6.drewN jj) ⟨hK6.box, hK6.row, hK6.none_⟩
              have hRH := fun jj => RHeld_calls w2.heap.size h vz6 zs6 K1.leaving (w6.drewN jj) ⟨hZ6.rin.box, hZ6.rin.row, hZ6.rin.ins⟩ (by rw [hZ6.held]; have := HP1.out; rw [← hK1] at this; omega) (by have h1 := dataOf_len zs6 hZ6.full; have h2 := HP1.out; rw [← hK1, ← hZ6.held, h1] at h2; omega)
              have hOp := fun W (q : KIn W w2.heap.size g v5 K1) => Open_calls w2.heap.size g v5 K1 W q
              obtain ⟨hl1, hhl1⟩ : ∃ hl1, hl1 = K1.held.length := ⟨_, rfl⟩
              obtain ⟨Az, cz, bz, hvz, -, -, -, -, -, -⟩ := ownsP_sl hZ6.rin.row
              obtain ⟨zl, hzl⟩ : ∃ zl, zl = zs6.length := ⟨_, rfl⟩
              have ho1 : decide (0 < (zl : Int)) = decide (0 < hl1) := by
                have h1 := dataOf_len zs6 hZ6.full
                rw [hZ6.held] at h1
                rw [Bool.eq_iff_iff]
                simp
                omega
              rw [← hhl1] at hHk hOp
              obtain ⟨o1, ho⟩ : ∃ o1, o1 = decide (0 < hl1) := ⟨_, rfl⟩
              have ho2 : decide (0 < zl) = decide (0 < hl1) := by rw [← ho1, Bool.eq_iff_iff]; simp
              rw [← ho] at ho1 ho2 hOp
              have z0 := hZ6.rin.box.c0
              rw [hvz, ← hzl] at z0
              have hS := Same_calls X5 X6 O O O.length O.length x5 x6 y5 y6 w6.drew (Sl.drew hs56) (Sl.drew hs6) rfl rfl (Nat.le_trans hx5l hx5m) (Nat.le_trans hx6l hx6m)
              rw [show decide (O = O) = true by simp] at hS
              have HE := Lib.hid (And.intro hK6 (And.intro hZ6 (And.intro hm6 (And.intro hin6 (And.intro hm5 hat5)))))
              have HK1 := Lib.hid hK1
              have HHL := Lib.hid hhl1
              have HZZ := Lib.hid (And.intro hvz hzl)
              clear hK5 hr5 hm5 hat5 hZ5 hvg hK6 hr56 hZ6 hm6 hin6 hs56 hs6 hhl1 hK1 hO hok her hzl hvz ho hR p0 p1 p2
              go_wp2_with fail
              refine wp_region_held_drew (S := fun w0 => w0.cell? ⟨h, 0, none⟩ = some (.slice Az zl cz)) (by kernel_rfl) ?_ (fun hHeld => ?_)
              · exact z0
              refine wpAnyH_take (i := 0) (v := ?g3xv0) (by simp only [List.getElem?_toArray, List.getElem?_cons_zero]; rfl) (by kernel_rfl) (by kernel_rfl) (by kernel_rfl) (by exact fun _ _ _ h => h) (Or.inl ⟨by kernel_rfl, ?g3xy0⟩) hHeld ?_
              case g3xy0 => (intro w hSw; (try dsimp only at hSw); skip; go_simp; try (with_reducible rfl))
              try simp only [Act.put, List.setIfInBounds_toArray, List.set_cons_zero, List.set_cons_succ]
              refine wpAnyH_take (i := 1) (v := ?g3xv1) (by simp only [List.getElem?_toArray, List.getElem?_cons_succ, List.getElem?_cons_zero]; rfl) (by kernel_rfl) (by kernel_rfl) (by kernel_rfl) (by exact fun _ _ _ h => h) (Or.inl ⟨by kernel_rfl, ?g3xy1⟩) hHeld ?_
              case g3xy1 => (intro w hSw; (try dsimp only at hSw); skip; go_simp; try (with_reducible rfl))
              try simp only [Act.put, List.setIfInBounds_toArray, List.set_cons_zero, List.set_cons_succ]
              refine wpAnyH_take (i := 2) (v := ?g3xv2) (by simp only [List.getElem?_toArray, List.getElem?_cons_succ, List.getElem?_cons_zero]; rfl) (by kernel_rfl) (by kernel_rfl) (by kernel_rfl) (by exact fun _ _ _ h => h) (Or.inl ⟨by kernel_rfl, ?g3xy2⟩) hHeld ?_
              case g3xy2 => (intro w hSw; (try dsimp only at hSw); skip; go_simp; try (with_reducible rfl))
              try simp only [Act.put, List.setIfInBounds_toArray, List.set_cons_zero, List.set_cons_succ]
              refine wpAnyH_take (i := 3) (v := ?g3xv3) (by simp only [List.getElem?_toArray, List.getElem?_cons_succ, List.getElem?_cons_zero]; rfl) (by kernel_rfl) (by kernel_rfl) (by kernel_rfl) (by exact fun _ _ _ h => h) (Or.inl ⟨by kernel_rfl, ?g3xy3⟩) hHeld ?_
              case g3xy3 => (intro w hSw; (try dsimp only at hSw); skip; go_simp; try (with_reducible rfl))
              try simp only [Act.put, List.setIfInBounds_toArray, List.set_cons_zero, List.set_cons_succ]
              refine wpAnyH_take (i := 4) (v := ?g3xv4) (by simp only [List.getElem?_toArray, List.getElem?_cons_succ, List.getElem?_cons_zero]; rfl) (by kernel_rfl) (by kernel_rfl) (by kernel_rfl) (by exact fun _ _ _ h => h) (Or.inl ⟨by kernel_rfl, ?g3xy4⟩) hHeld ?_
              case g3xy4 => (intro w hSw; (try dsimp only at hSw); skip; go_simp; try (with_reducible rfl))
              try simp only [Act.put, List.setIfInBounds_toArray, List.set_cons_zero, List.set_cons_succ]
              refine wpAnyH_take (i := 5) (v := ?g3xv5) (by simp only [List.getElem?_toArray, List.getElem?_cons_succ, List.getElem?_cons_zero]; rfl) (by kernel_rfl) (by kernel_rfl) (by kernel_rfl) (by exact fun _ _ _ h => h) (Or.inl ⟨by kernel_rfl, ?g3xy5⟩) hHeld ?_
              case g3xy5 => (intro w hSw; (try dsimp only at hSw); skip; go_simp; try (with_reducible rfl))
              try simp only [Act.put, List.setIfInBounds_toArray, List.set_cons_zero, List.set_cons_succ]
              refine wpAnyH_take (i := 6) (v := ?g3xv6) (by simp only [List.getElem?_toArray, List.getElem?_cons_succ, List.getElem?_cons_zero]; rfl) (by kernel_rfl) (by kernel_rfl) (by kernel_rfl) (by exact fun _ _ _ h => h) (Or.inl ⟨by kernel_rfl, ?g3xy6⟩) hHeld ?_
              case g3xy6 => (intro w hSw; (try dsimp only at hSw); skip; go_simp; try (with_reducible rfl))
              try simp only [Act.put, List.setIfInBounds_toArray, List.set_cons_zero, List.set_cons_succ]
              refine wpAnyH_take (i := 7) (v := ?g3xv7) (by simp only [List.getElem?_toArray, List.getElem?_cons_succ, List.getElem?_cons_zero]; rfl) (by kernel_rfl) (by kernel_rfl) (by kernel_rfl) (by exact fun _ _ _ h => h) (Or.inl ⟨by kernel_rfl, ?g3xy7⟩) hHeld ?_
              case g3xy7 => (intro w hSw; (try dsimp only at hSw); skip; go_simp; try (with_reducible rfl))
              try simp only [Act.put, List.setIfInBounds_toArray, List.set_cons_zero, List.set_cons_succ]
              refine wpAnyH_take (i := 8) (v := ?g3xv8) (by simp only [List.getElem?_toArray, List.getElem?_cons_succ, List.getElem?_cons_zero]; rfl) (by kernel_rfl) (by kernel_rfl) (by kernel_rfl) (by exact fun _ _ _ h => h) (Or.inl ⟨by kernel_rfl, ?g3xy8⟩) hHeld ?_
              case g3xy8 => (intro w hSw; (try dsimp only at hSw); skip; go_simp; try (with_reducible rfl))
              try simp only [Act.put, List.setIfInBounds_toArray, List.set_cons_zero, List.set_cons_succ]
              refine wpAnyH_take (i := 9) (v := ?g3xv9) (by simp only [List.getElem?_toArray, List.getElem?_cons_succ, List.getElem?_cons_zero]; rfl) (by kernel_rfl) (by kernel_rfl) (by kernel_rfl) (by exact fun _ _ _ h => h) (Or.inl ⟨by kernel_rfl, ?g3xy9⟩) hHeld ?_
              case g3xy9 => (intro w hSw; (try dsimp only at hSw); skip; go_simp; try (with_reducible rfl))
              try simp only [Act.put, List.setIfInBounds_toArray, List.set_cons_zero, List.set_cons_succ]
              refine wpAnyH_take (i := 10) (v := ?g3xv10) (by simp only [List.getElem?_toArray, List.getElem?_cons_succ, List.getElem?_cons_zero]; rfl) (by kernel_rfl) (by kernel_rfl) (by kernel_rfl) (by exact fun _ _ _ h => h) (Or.inl ⟨by kernel_rfl, ?g3xy10⟩) hHeld ?_
              case g3xy10 => (intro w hSw; (try dsimp only at hSw); skip; go_simp; try (with_reducible rfl))
              try simp only [Act.put, List.setIfInBounds_toArray, List.set_cons_zero, List.set_cons_succ]
              refine wpAnyH_ready (rs := [11]) (by kernel_rfl) (by simp) ?_
              refine AllReadyH.cons (by simp only [List.getElem?_toArray, List.getElem?_cons_succ, List.getElem?_cons_zero]; rfl) (fun KK hKK => ?_) AllReadyH.nil
              rw [if_pos (by kernel_rfl)]
              go_simp
              refine hS.mono ?_
              rintro e w7 ⟨rfl, jj, rfl⟩
              go_wp2_with fail
              refine hKK.out _ _ ?_ (fun hHeld => ?_)
              · exact z0
              clear hKK KK
              try simp only [Act.put, List.setIfInBounds_toArray, List.set_cons_zero, List.set_cons_succ]
              refine wpAnyH_take (i := 12) (v := ?g3xv12) (by simp only [List.getElem?_toArray, List.getElem?_cons_succ, List.getElem?_cons_zero]; rfl) (by kernel_rfl) (by kernel_rfl) (by kernel_rfl) (by exact fun _ _ _ h => h) (Or.inl ⟨by kernel_rfl, ?g3xy12⟩) hHeld ?_
              case g3xy12 => (intro w hSw; (try dsimp only at hSw); skip; go_simp; try (with_reducible rfl))
              try simp only [Act.put, List.setIfInBounds_toArray, List.set_cons_zero, List.set_cons_succ]
              refine wpAnyH_take (i := 13) (v := ?g3xv13) (by simp only [List.getElem?_toArray, List.getElem?_cons_succ, List.getElem?_cons_zero]; rfl) (by kernel_rfl) (by kernel_rfl) (by kernel_rfl) (by exact fun _ _ _ h => h) (Or.inl ⟨by kernel_rfl, ?g3xy13⟩) hHeld ?_
              case g3xy13 => (intro w hSw; (try dsimp only at hSw); skip; go_simp; try (with_reducible rfl))
              try simp only [Act.put, List.setIfInBounds_toArray, List.set_cons_zero, List.set_cons_succ]
              refine wpAnyH_take (i := 14) (v := ?g3xv14) (by simp only [List.getElem?_toArray, List.getElem?_cons_succ, List.getElem?_cons_zero]; rfl) (by kernel_rfl) (by kernel_rfl) (by kernel_rfl) (by exact fun _ _ _ h => h) (Or.inl ⟨by kernel_rfl, ?g3xy14⟩) hHeld ?_
              case g3xy14 => (intro w hSw; (try dsimp only at hSw); skip; go_simp; try (with_reducible rfl))
              try simp only [Act.put, List.setIfInBounds_toArray, List.set_cons_zero, List.set_cons_succ]
              refine wpAnyH_take (i := 16) (v := ?g3xv16) (by simp only [List.getElem?_toArray, List.getElem?_cons_succ, List.getElem?_cons_zero]; rfl) (by kernel_rfl) (by kernel_rfl) (by kernel_rfl) (by exact fun _ _ _ h => h) (Or.inl ⟨by kernel_rfl, ?g3xy16⟩) hHeld ?_
              case g3xy16 => (intro w hSw; (try dsimp only at hSw); skip; go_simp; try (with_reducible rfl))
              try simp only [Act.put, List.setIfInBounds_toArray, List.set_cons_zero, List.set_cons_succ]
              refine wpAnyH_ready (rs := [15]) (by kernel_rfl) (by simp) ?_
              refine AllReadyH.cons (by simp only [List.getElem?_toArray, List.getElem?_cons_succ, List.getElem?_cons_zero]; rfl) (fun KK hKK => ?_) AllReadyH.nil
              rw [if_pos (by kernel_rfl)]
              go_simp
              refine (hHk _).mono ?_
              rintro e w8 ⟨rfl, rfl⟩
              go_wp2_with fail
              refine hKK.out _ _ ?_ (fun hHeld => ?_)
              · exact z0
              clear hKK KK
              try simp only [Act.put, List.setIfInBounds_toArray, List.set_cons_zero, List.set_cons_succ]
              refine wpAnyH_ready (rs := [17]) (by kernel_rfl) (by simp) ?_
              refine AllReadyH.cons (by simp only [List.getElem?_toArray, List.getElem?_cons_succ, List.getElem?_cons_zero]; rfl) (fun KK hKK => ?_) AllReadyH.nil
              rw [if_pos (by kernel_rfl)]
              go_simp
              refine (hRH _).mono ?_
              rintro e w9 ⟨vr, rfl, hrr, h9⟩
              obtain ⟨Ar, cr, br, rfl, -, -, -, -, -, -⟩ := hrr.sl
              rw [HE.out.2.1.held, ← HHL.out]
              have hK9 : KIn w9 w2.heap.size g v5 K1 := HE.out.1.ext (w' := w9) ⟨h9.os, h9.tape, h9.output, h9.size, h9.block⟩
              have z9 : w9.cell? ⟨h, 0, none⟩ = some (.slice Az zl cz) := by rw [(HE.out.2.1.rin.box.ext (w' := w9) ⟨h9.os, h9.tape, h9.output, h9.size, h9.block⟩).c0, HZZ.out.1, ← HZZ.out.2]
              have HK9 := Lib.hid hK9
              have H9 := Lib.hid h9
              clear hK9 hrr h9
              go_wp2_with fail
              refine hKK.out _ _ ?_ (fun hHeld => ?_)
              · exact z9
              clear hKK KK
              try simp only [Act.put, List.setIfInBounds_toArray, List.set_cons_zero, List.set_cons_succ]
              refine wpAnyH_take (i := 18) (v := ?g3xv18) (by simp only [List.getElem?_toArray, List.getElem?_cons_succ, List.getElem?_cons_zero]; rfl) (by kernel_rfl) (by kernel_rfl) (by kernel_rfl) (by exact fun _ _ _ h => h) (Or.inl ⟨by kernel_rfl, ?g3xy18⟩) hHeld ?_
              case g3xy18 => (intro w hSw; (try dsimp only at hSw); skip; go_simp; try (with_reducible rfl))
              try simp only [Act.put, List.setIfInBounds_toArray, List.set_cons_zero, List.set_cons_succ]
              refine wpAnyH_take (i := 19) (v := ?g3xv19) (by simp only [List.getElem?_toArray, List.getElem?_cons_succ, List.getElem?_cons_zero]; rfl) (by kernel_rfl) (by kernel_rfl) (by kernel_rfl) (by exact fun _ _ _ h => h) (Or.inl ⟨by kernel_rfl, ?g3xy19⟩) hHeld ?_
              case g3xy19 => (intro w hSw; (try dsimp only at hSw); skip; go_simp; try (with_reducible rfl))
              try simp only [Act.put, List.setIfInBounds_toArray, List.set_cons_zero, List.set_cons_succ]
              refine wpAnyH_take (i := 20) (v := ?g3xv20) (by simp only [List.getElem?_toArray, List.getElem?_cons_succ, List.getElem?_cons_zero]; rfl) (by kernel_rfl) (by kernel_rfl) (by kernel_rfl) (by exact fun _ _ _ h => h) (Or.inl ⟨by kernel_rfl, ?g3xy20⟩) hHeld ?_
              case g3xy20 => (intro w hSw; (try dsimp only at hSw); skip; go_simp; try (with_reducible rfl))
              try simp only [Act.put, List.setIfInBounds_toArray, List.set_cons_zero, List.set_cons_succ]
              refine wpAnyH_take (i := 21) (v := ?g3xv21) (by simp only [List.getElem?_toArray, List.getElem?_cons_succ, List.getElem?_cons_zero]; rfl) (by kernel_rfl) (by kernel_rfl) (by kernel_rfl) (by exact fun _ _ _ h => h) (Or.inl ⟨by kernel_rfl, ?g3xy21⟩) hHeld ?_
              case g3xy21 => (intro w hSw; (try dsimp only at hSw); skip; go_simp; try (with_reducible rfl))
              try simp only [Act.put, List.setIfInBounds_toArray, List.set_cons_zero, List.set_cons_succ]
              refine wpAnyH_take (i := 23) (v := ?g3xv23) (by simp only [List.getElem?_toArray, List.getElem?_cons_succ, List.getElem?_cons_zero]; rfl) (by kernel_rfl) (by kernel_rfl) (by kernel_rfl) (by exact fun _ _ _ h => h) (Or.inl ⟨by kernel_rfl, ?g3xy23⟩) hHeld ?_
              case g3xy23 => (intro w hSw; (try dsimp only at hSw); skip; go_simp; try (with_reducible rfl))
              try simp only [Act.put, List.setIfInBounds_toArray, List.set_cons_zero, List.set_cons_succ]
              refine wpAnyH_take (i := 24) (v := ?g3xv24) (by simp only [List.getElem?_toArray, List.getElem?_cons_succ, List.getElem?_cons_zero]; rfl) (by kernel_rfl) (by kernel_rfl) (by kernel_rfl) (by exact fun _ _ _ h => h) (Or.inl ⟨by kernel_rfl, ?g3xy24⟩) hHeld ?_
              case g3xy24 => (intro w hSw; (try dsimp only at hSw); skip; go_simp; try (with_reducible rfl))
              try simp only [Act.put, List.setIfInBounds_toArray, List.set_cons_zero, List.set_cons_succ]
              refine wpAnyH_take (i := 25) (v := ?g3xv25) (by simp only [List.getElem?_toArray, List.getElem?_cons_succ, List.getElem?_cons_zero]; rfl) (by kernel_rfl) (by kernel_rfl) (by kernel_rfl) (by exact fun _ _ _ h => h) (Or.inl ⟨by kernel_rfl, ?g3xy25⟩) hHeld ?_
              case g3xy25 => (intro w hSw; (try dsimp only at hSw); skip; go_simp; try (with_reducible rfl))
              try simp only [Act.put, List.setIfInBounds_toArray, List.set_cons_zero, List.set_cons_succ]
              refine wpAnyH_take (i := 26) (v := ?g3xv26) (by simp only [List.getElem?_toArray, List.getElem?_cons_succ, List.getElem?_cons_zero]; rfl) (by kernel_rfl) (by kernel_rfl) (by kernel_rfl) (by exact fun _ _ _ h => h) (Or.inl ⟨by kernel_rfl, ?g3xy26⟩) hHeld ?_
              case g3xy26 => (intro w hSw; (try dsimp only at hSw); skip; go_simp; try (with_reducible rfl))
              try simp only [Act.put, List.setIfInBounds_toArray, List.set_cons_zero, List.set_cons_succ]
              refine wpAnyH_take (i := 27) (v := ?g3xv27) (by simp only [List.getElem?_toArray, List.getElem?_cons_succ, List.getElem?_cons_zero]; rfl) (by kernel_rfl) (by kernel_rfl) (by kernel_rfl) (by exact fun _ _ _ h => h) (Or.inl ⟨by kernel_rfl, ?g3xy27⟩) hHeld ?_
              case g3xy27 => (intro w hSw; (try dsimp only at hSw); skip; go_simp; try (with_reducible rfl))
              try simp only [Act.put, List.setIfInBounds_toArray, List.set_cons_zero, List.set_cons_succ]
              refine wpAnyH_take (i := 28) (v := ?g3xv28) (by simp only [List.getElem?_toArray, List.getElem?_cons_succ, List.getElem?_cons_zero]; rfl) (by kernel_rfl) (by kernel_rfl) (by kernel_rfl) (by exact fun _ _ _ h => h) (Or.inl ⟨by kernel_rfl, ?g3xy28⟩) hHeld ?_
              case g3xy28 => (intro w hSw; (try dsimp only at hSw); skip; go_simp; try (with_reducible rfl))
              try simp only [Act.put, List.setIfInBounds_toArray, List.set_cons_zero, List.set_cons_succ]
              refine wpAnyH_ready (rs := [22]) (by kernel_rfl) (by simp) ?_
              refine AllReadyH.cons (by simp only [List.getElem?_toArray, List.getElem?_cons_succ, List.getElem?_cons_zero]; rfl) (fun KK hKK => ?_) AllReadyH.nil
              rw [if_pos (by kernel_rfl)]
              go_simp
              refine (hOp _ HK9.out).mono ?_
              rintro e w10 ⟨rfl, rfl⟩
              go_wp2_with fail
              refine hKK.out _ _ ?_ (fun hHeld => ?_)
              · exact z9
              clear hKK KK
              try simp only [Act.put, List.setIfInBounds_toArray, List.set_cons_zero, List.set_cons_succ]
              refine wpAnyH_take (i := 29) (v := ?g3xv29) (by simp only [List.getElem?_toArray, List.getElem?_cons_succ, List.getElem?_cons_zero]; rfl) (by kernel_rfl) (by kernel_rfl) (by kernel_rfl) (by exact fun _ _ _ h => h) (Or.inl ⟨by kernel_rfl, ?g3xy29⟩) hHeld ?_
              case g3xy29 => (intro w hSw; (try dsimp only at hSw); skip; go_simp; try (with_reducible rfl))
              try simp only [Act.put, List.setIfInBounds_toArray, List.set_cons_zero, List.set_cons_succ]
              refine wpAnyH_take (i := 30) (v := ?g3xv30) (by simp only [List.getElem?_toArray, List.getElem?_cons_succ, List.getElem?_cons_zero]; rfl) (by kernel_rfl) (by kernel_rfl) (by kernel_rfl) (by exact fun _ _ _ h => h) (Or.inl ⟨by kernel_rfl, ?g3xy30⟩) hHeld ?_
              case g3xy30 => (intro w hSw; (try dsimp only at hSw); skip; go_simp; try (with_reducible rfl))
              try simp only [Act.put, List.setIfInBounds_toArray, List.set_cons_zero, List.set_cons_succ]
              refine wpAnyH_done (by kernel_rfl) ?_ _
              go_wp2_with fail
              have h69 : Below w6.heap.size w6 w10 := ⟨H9.out.os, H9.out.tape, H9.out.output, H9.out.size, H9.out.block⟩
              obtain ⟨hK6, hZ6, hm6, hin6, hm5, hat5⟩ := HE.out
              have hvlt := hK.out.row.lt
              have hzlt := World.ownsRow.lt hZ.out.rin.row
              have hw4 := HW4.out
              have hfar2 : ∀ z ∈ zs6, v5.ownBlock ≠ some z.b ∧ z.b ≠ g := by
                intro z hz
                have hq : v.ownBlock ≠ some z.b ∧ z.b ≠ g ∧ z.b < ws19.heap.size := by
                  rcases hin6 z hz with h1 | h1
                  · obtain ⟨h2, h3⟩ := hfar.out z h1
                    have h4 := Bs.lt (hZ.out.rin.ins z h1).1 (by intro e; have := hZ.out.full z h1; rw [e] at this; simp at this)
                    have h5 := hw4.size
                    exact ⟨h2, h3, by omega⟩
                  · rw [h1]
                    exact ⟨fun e => by have := (hvlt _ e).2; omega, by omega, hb6u⟩
                refine ⟨?_, hq.2.1⟩
                rcases hat5 with e | e | ⟨j, e, hj⟩
                · rw [e]; exact hq.1
                · rw [e]; simp
                · rw [e]; intro e2; injection e2 with e2; have := hq.2.2; omega
              have hb4 := hbw.trans (hw4.mono hbw.size)
              have hb5 := hb4.trans (hm5.below hb4.size (fun i hi e => by rcases e with e | e; omega; have := (hvlt _ e).1; omega))
              have hb6w := hb5.trans (hm6.below hb5.size (fun i hi e => by rcases e with e | e; omega; have := (hzlt _ e).1; omega))
              have hb10 := hb6w.trans (h69.mono hb6w.size)
              have s1 := hw4.size
              have s2 := hm5.size
              have s3 := hm6.size
              have s4 := h69.size
              exact ⟨⟨k + 1, v5, vz6, zs6, K1, by omega, by go_num, Lib.hid HK9.out, Lib.hid (hZ6.ext h69), Lib.hid (by rw [HK1.out]; exact HP1.out), Lib.hid hfar2, hb10, by omega⟩, by simp [intOf]; omega⟩
        · have hk2' : ¬ (k : Int) < (m2 : Int) := by omega
          obtain ⟨b6, hb6s, hb6l, hb6u⟩ : ∃ b6, Bs (w3.setCell ⟨wr.heap.size, 2, none⟩ (.slice A3 d1.length c3)) b6 A3 d1 ∧ wr.heap.size ≤ b6 ∧ b6 < (w3.setCell ⟨wr.heap.size, 2, none⟩ (.slice A3 d1.length c3)).heap.size := by
            by_cases h0 : d1 = []
            · subst h0
              exact ⟨wr.heap.size, Sl.nil_ _ _ _, Nat.le_refl _, (Array.getElem?_eq_some_iff.1 HBOX.out).1⟩
            · exact ⟨b3, HS4.out, by omega, Bs.lt HS4.out h0⟩
          obtain ⟨hwg, hg2, hwh, hh2, hgh⟩ := HGH.out
          have hw4 := HW4.out
          have hw4s := hw4.size
          have hK4 := hK.out.ext hw4
          have hZ4 := hZ.out.ext hw4
          have hvlt := hK.out.row.lt
          have hzlt := World.ownsRow.lt hZ.out.rin.row
          have hPut := Put2_calls w2.heap.size g v K ⟨y.p.first, y.p.last, d1⟩ A3 c3 b6 (w3.setCell ⟨wr.heap.size, 2, none⟩ (.slice A3 d1.length c3)) hK4 hKl.out hb6s (by simp only [maxLen]; omega) (by omega)
          have c0 := (cell_of_row _ _ 0 _ _ _ HBOX.out).trans (show _ = some (.bool y.p.first) from rfl)
          have c1' := (cell_of_row _ _ 1 _ _ _ HBOX.out).trans (show _ = some (.bool y.p.last) from rfl)
          have c2' := (cell_of_row _ _ 2 _ _ _ HBOX.out).trans (show _ = some (.slice A3 d1.length c3) from rfl)
          have hv39 : ∀ i, vz.ownBlock = some i → i ≠ g ∧ v.ownBlock ≠ some i := fun i hi => ⟨fun e => boxK_row hK4.box hZ4.rin.row (by rw [hi, e]), own_apart hZ4.rin.row hK4.row (by decide) hi⟩
          have hvh : v.ownBlock ≠ some h := boxR_u8 hZ4.rin.box hK4.row
          have hP1 := putB_len K ⟨y.p.first, y.p.last, d1⟩ hKl.out
          have HV := Lib.hid (And.intro hK4 (And.intro hZ4 (And.intro hv39 (And.intro hvh (And.intro hvlt hzlt)))))
          have HP1 := Lib.hid hP1
          have HB6 := Lib.hid hb6s
          clear hK4 hZ4 hv39 hvh hvlt hzlt hP1 hb6s hw4
          go_wp2_with fail
          refine hPut.mono ?_
          rintro e w5 ⟨v5, vo5, rfl, hK5, hr5, hm5, hat5⟩
          obtain ⟨hK4, hZ4, hv39, hvh, hvlt, hzlt⟩ := HV.out
          have hbx5 := (hm5.block wr.heap.size (Nat.lt_of_le_of_lt hb6l hb6u) (fun e => by rcases e with e | e; omega; have := (hvlt _ e).2; omega)).trans HBOX.out
          have hZ5 := hZ4.mod hm5 (fun e => by rcases e with e | e; exact hgh e.symm; exact hvh e) (fun i hi e => by rcases e with e | e; exact (hv39 i hi).1 e; exact (hv39 i hi).2 e) (fun z hz e => by rcases e with e | e; exact (hfar.out z hz).2 e; exact (hfar.out z hz).1 e)
          have hs5 := Bs.modne HB6.out hm5 (fun _ e => by rcases e with e | e; omega; have := (hvlt _ e).2; omega)
          have hR := RPut_calls w2.heap.size h vz zs K ⟨y.p.first, y.p.last, d1⟩ A3 c3 b6 w5 hZ5 hKl.out hs5 (by simp only [maxLen]; omega) (Nat.le_trans (by omega) hm5.size) (by omega) (fun e => by have := (hzlt _ e).2; omega) (Nat.lt_of_lt_of_le hb6u hm5.size)
          have p0 := (cell_of_row _ _ 0 _ _ _ hbx5).trans (show _ = some (.bool y.p.first) from rfl)
          have p1 := (cell_of_row _ _ 1 _ _ _ hbx5).trans (show _ = some (.bool y.p.last) from rfl)
          have p2 := (cell_of_row _ _ 2 _ _ _ hbx5).trans (show _ = some (.slice A3 d1.length c3) from rfl)
          have HX := Lib.hid (And.intro hK5 (And.intro hr5 (And.intro hm5 (And.intro hat5 hZ5))))
          clear hK5 hr5 hm5 hat5 hZ5 hPut hbx5 c0 c1' c2' hK4 hZ4 hv39 hvh hvlt hzlt hs5
          go_wp2_with fail
          refine hR.mono ?_
          rintro e w6 ⟨vz6, zs6, vo6, rfl, hZ6, hr6, hm6, hin6⟩
          obtain ⟨hK5, hr5, hm5, hat5, hZ5⟩ := HX.out
          have hvg : ∀ i, vz.ownBlock = some i → i ≠ g := fun i hi e => boxK_row hK5.box hZ5.rin.row (by rw [hi, e])
          have hK6 := hK5.mod hm6 (fun e => by rcases e with e | e; exact hgh e; exact hvg g e rfl) (fun i hi e => by rcases e with e | e; exact boxR_u8 hZ5.rin.box hK5.row (by rw [hi, e]); exact own_apart hZ5.rin.row hK5.row (by decide) e hi)
          have hr56 := Row.mod hr5 hm6 (fun i hi e => by rcases e with e | e; exact boxR_u8 hZ5.rin.box hr5 (by rw [hi, e]); exact own_apart hZ5.rin.row hr5 (by decide) e hi)
          obtain ⟨X5, x5, y5, rfl, hx5l, hx5m, -, -, hs56, -⟩ := hr56.sl
          obtain ⟨X6, x6, y6, rfl, hx6l, hx6m, -, -, hs6, -⟩ := hr6.sl
          obtain ⟨K1, hK1⟩ : ∃ K1, K1 = (putB K ⟨y.p.first, y.p.last, d1⟩).1 := ⟨_, rfl⟩
          obtain ⟨O, hO⟩ : ∃ O, O = (putB K ⟨y.p.first, y.p.last, d1⟩).2.1 := ⟨_, rfl⟩
          obtain ⟨ok, hok⟩ : ∃ ok, ok = (putB K ⟨y.p.first, y.p.last, d1⟩).2.2.1 := ⟨_, rfl⟩
          obtain ⟨er, her⟩ : ∃ er, er = (putB K ⟨y.p.first, y.p.last, d1⟩).2.2.2 := ⟨_, rfl⟩
          rw [← hK1] at hK6 hZ6
          rw [← hO] at hs56 hs6
          rw [← hO] at hx5l hx6l
          rw [← hO, ← hok, ← her]
          have hHk := fun jj => Held_calls w2.heap.size g v5 K1 (w6.drewN jj) ⟨hK6.box, hK6.row, hK6.none_⟩
          have hRH := fun jj => RHeld_calls w2.heap.size h vz6 zs6 K1.leaving (w6.drewN jj) ⟨hZ6.rin.box, hZ6.rin.row, hZ6.rin.ins⟩ (by rw [hZ6.held]; have := HP1.out; rw [← hK1] at this; omega) (by have h1 := dataOf_len zs6 hZ6.full; have h2 := HP1.out; rw [← hK1, ← hZ6.held, h1] at h2; omega)
          have hOp := fun W (q : KIn W w2.heap.size g v5 K1) => Open_calls w2.heap.size g v5 K1 W q
          obtain ⟨hl1, hhl1⟩ : ∃ hl1, hl1 = K1.held.length := ⟨_, rfl⟩
          obtain ⟨Az, cz, bz, hvz, -, -, -, -, -, -⟩ := ownsP_sl hZ6.rin.row
          obtain ⟨zl, hzl⟩ : ∃ zl, zl = zs6.length := ⟨_, rfl⟩
          have ho1 : decide (0 < (zl : Int)) = decide (0 < hl1) := by
            have h1 := dataOf_len zs6 hZ6.full
            rw [hZ6.held] at h1
            rw [Bool.eq_iff_iff]
            simp
            omega
          rw [← hhl1] at hHk hOp
          obtain ⟨o1, ho⟩ : ∃ o1, o1 = decide (0 < hl1) := ⟨_, rfl⟩
          have ho2 : decide (0 < zl) = decide (0 < hl1) := by rw [← ho1, Bool.eq_iff_iff]; simp
          rw [← ho] at ho1 ho2 hOp
          have z0 := hZ6.rin.box.c0
          rw [hvz, ← hzl] at z0
          have hS := Same_calls X5 X6 O O O.length O.length x5 x6 y5 y6 w6.drew (Sl.drew hs56) (Sl.drew hs6) rfl rfl (Nat.le_trans hx5l hx5m) (Nat.le_trans hx6l hx6m)
          rw [show decide (O = O) = true by simp] at hS
          have HE := Lib.hid (And.intro hK6 (And.intro hZ6 (And.intro hm6 (And.intro hin6 (And.intro hm5 hat5)))))
          have HK1 := Lib.hid hK1
          have HHL := Lib.hid hhl1
          have HZZ := Lib.hid (And.intro hvz hzl)
          clear hK5 hr5 hm5 hat5 hZ5 hvg hK6 hr56 hZ6 hm6 hin6 hs56 hs6 hhl1 hK1 hO hok her hzl hvz ho hR p0 p1 p2
          go_wp2_with fail
          refine wp_region_held_drew (S := fun w0 => w0.cell? ⟨h, 0, none⟩ = some (.slice Az zl cz)) (by kernel_rfl) ?_ (fun hHeld => ?_)
          · exact z0
          refine wpAnyH_take (i := 0) (v := ?g4xv0) (by simp only [List.getElem?_toArray, List.getElem?_cons_zero]; rfl) (by kernel_rfl) (by kernel_rfl) (by kernel_rfl) (by exact fun _ _ _ h => h) (Or.inl ⟨by kernel_rfl, ?g4xy0⟩) hHeld ?_
          case g4xy0 => (intro w hSw; (try dsimp only at hSw); skip; go_simp; try (with_reducible rfl))
          try simp only [Act.put, List.setIfInBounds_toArray, List.set_cons_zero, List.set_cons_succ]
          refine wpAnyH_take (i := 1) (v := ?g4xv1) (by simp only [List.getElem?_toArray, List.getElem?_cons_succ, List.getElem?_cons_zero]; rfl) (by kernel_rfl) (by kernel_rfl) (by kernel_rfl) (by exact fun _ _ _ h => h) (Or.inl ⟨by kernel_rfl, ?g4xy1⟩) hHeld ?_
          case g4xy1 => (intro w hSw; (try dsimp only at hSw); skip; go_simp; try (with_reducible rfl))
          try simp only [Act.put, List.setIfInBounds_toArray, List.set_cons_zero, List.set_cons_succ]
          refine wpAnyH_take (i := 2) (v := ?g4xv2) (by simp only [List.getElem?_toArray, List.getElem?_cons_succ, List.getElem?_cons_zero]; rfl) (by kernel_rfl) (by kernel_rfl) (by kernel_rfl) (by exact fun _ _ _ h => h) (Or.inl ⟨by kernel_rfl, ?g4xy2⟩) hHeld ?_
          case g4xy2 => (intro w hSw; (try dsimp only at hSw); skip; go_simp; try (with_reducible rfl))
          try simp only [Act.put, List.setIfInBounds_toArray, List.set_cons_zero, List.set_cons_succ]
          refine wpAnyH_take (i := 3) (v := ?g4xv3) (by simp only [List.getElem?_toArray, List.getElem?_cons_succ, List.getElem?_cons_zero]; rfl) (by kernel_rfl) (by kernel_rfl) (by kernel_rfl) (by exact fun _ _ _ h => h) (Or.inl ⟨by kernel_rfl, ?g4xy3⟩) hHeld ?_
          case g4xy3 => (intro w hSw; (try dsimp only at hSw); skip; go_simp; try (with_reducible rfl))
          try simp only [Act.put, List.setIfInBounds_toArray, List.set_cons_zero, List.set_cons_succ]
          refine wpAnyH_take (i := 4) (v := ?g4xv4) (by simp only [List.getElem?_toArray, List.getElem?_cons_succ, List.getElem?_cons_zero]; rfl) (by kernel_rfl) (by kernel_rfl) (by kernel_rfl) (by exact fun _ _ _ h => h) (Or.inl ⟨by kernel_rfl, ?g4xy4⟩) hHeld ?_
          case g4xy4 => (intro w hSw; (try dsimp only at hSw); skip; go_simp; try (with_reducible rfl))
          try simp only [Act.put, List.setIfInBounds_toArray, List.set_cons_zero, List.set_cons_succ]
          refine wpAnyH_take (i := 5) (v := ?g4xv5) (by simp only [List.getElem?_toArray, List.getElem?_cons_succ, List.getElem?_cons_zero]; rfl) (by kernel_rfl) (by kernel_rfl) (by kernel_rfl) (by exact fun _ _ _ h => h) (Or.inl ⟨by kernel_rfl, ?g4xy5⟩) hHeld ?_
          case g4xy5 => (intro w hSw; (try dsimp only at hSw); skip; go_simp; try (with_reducible rfl))
          try simp only [Act.put, List.setIfInBounds_toArray, List.set_cons_zero, List.set_cons_succ]
          refine wpAnyH_take (i := 6) (v := ?g4xv6) (by simp only [List.getElem?_toArray, List.getElem?_cons_succ, List.getElem?_cons_zero]; rfl) (by kernel_rfl) (by kernel_rfl) (by kernel_rfl) (by exact fun _ _ _ h => h) (Or.inl ⟨by kernel_rfl, ?g4xy6⟩) hHeld ?_
          case g4xy6 => (intro w hSw; (try dsimp only at hSw); skip; go_simp; try (with_reducible rfl))
          try simp only [Act.put, List.setIfInBounds_toArray, List.set_cons_zero, List.set_cons_succ]
          refine wpAnyH_take (i := 7) (v := ?g4xv7) (by simp only [List.getElem?_toArray, List.getElem?_cons_succ, List.getElem?_cons_zero]; rfl) (by kernel_rfl) (by kernel_rfl) (by kernel_rfl) (by exact fun _ _ _ h => h) (Or.inl ⟨by kernel_rfl, ?g4xy7⟩) hHeld ?_
          case g4xy7 => (intro w hSw; (try dsimp only at hSw); skip; go_simp; try (with_reducible rfl))
          try simp only [Act.put, List.setIfInBounds_toArray, List.set_cons_zero, List.set_cons_succ]
          refine wpAnyH_take (i := 8) (v := ?g4xv8) (by simp only [List.getElem?_toArray, List.getElem?_cons_succ, List.getElem?_cons_zero]; rfl) (by kernel_rfl) (by kernel_rfl) (by kernel_rfl) (by exact fun _ _ _ h => h) (Or.inl ⟨by kernel_rfl, ?g4xy8⟩) hHeld ?_
          case g4xy8 => (intro w hSw; (try dsimp only at hSw); skip; go_simp; try (with_reducible rfl))
          try simp only [Act.put, List.setIfInBounds_toArray, List.set_cons_zero, List.set_cons_succ]
          refine wpAnyH_take (i := 9) (v := ?g4xv9) (by simp only [List.getElem?_toArray, List.getElem?_cons_succ, List.getElem?_cons_zero]; rfl) (by kernel_rfl) (by kernel_rfl) (by kernel_rfl) (by exact fun _ _ _ h => h) (Or.inl ⟨by kernel_rfl, ?g4xy9⟩) hHeld ?_
          case g4xy9 => (intro w hSw; (try dsimp only at hSw); skip; go_simp; try (with_reducible rfl))
          try simp only [Act.put, List.setIfInBounds_toArray, List.set_cons_zero, List.set_cons_succ]
          refine wpAnyH_take (i := 10) (v := ?g4xv10) (by simp only [List.getElem?_toArray, List.getElem?_cons_succ, List.getElem?_cons_zero]; rfl) (by kernel_rfl) (by kernel_rfl) (by kernel_rfl) (by exact fun _ _ _ h => h) (Or.inl ⟨by kernel_rfl, ?g4xy10⟩) hHeld ?_
          case g4xy10 => (intro w hSw; (try dsimp only at hSw); skip; go_simp; try (with_reducible rfl))
          try simp only [Act.put, List.setIfInBounds_toArray, List.set_cons_zero, List.set_cons_succ]
          refine wpAnyH_ready (rs := [11]) (by kernel_rfl) (by simp) ?_
          refine AllReadyH.cons (by simp only [List.getElem?_toArray, List.getElem?_cons_succ, List.getElem?_cons_zero]; rfl) (fun KK hKK => ?_) AllReadyH.nil
          rw [if_pos (by kernel_rfl)]
          go_simp
          refine hS.mono ?_
          rintro e w7 ⟨rfl, jj, rfl⟩
          go_wp2_with fail
          refine hKK.out _ _ ?_ (fun hHeld => ?_)
          · exact z0
          clear hKK KK
          try simp only [Act.put, List.setIfInBounds_toArray, List.set_cons_zero, List.set_cons_succ]
          refine wpAnyH_take (i := 12) (v := ?g4xv12) (by simp only [List.getElem?_toArray, List.getElem?_cons_succ, List.getElem?_cons_zero]; rfl) (by kernel_rfl) (by kernel_rfl) (by kernel_rfl) (by exact fun _ _ _ h => h) (Or.inl ⟨by kernel_rfl, ?g4xy12⟩) hHeld ?_
          case g4xy12 => (intro w hSw; (try dsimp only at hSw); skip; go_simp; try (with_reducible rfl))
          try simp only [Act.put, List.setIfInBounds_toArray, List.set_cons_zero, List.set_cons_succ]
          refine wpAnyH_take (i := 13) (v := ?g4xv13) (by simp only [List.getElem?_toArray, List.getElem?_cons_succ, List.getElem?_cons_zero]; rfl) (by kernel_rfl) (by kernel_rfl) (by kernel_rfl) (by exact fun _ _ _ h => h) (Or.inl ⟨by kernel_rfl, ?g4xy13⟩) hHeld ?_
          case g4xy13 => (intro w hSw; (try dsimp only at hSw); skip; go_simp; try (with_reducible rfl))
          try simp only [Act.put, List.setIfInBounds_toArray, List.set_cons_zero, List.set_cons_succ]
          refine wpAnyH_take (i := 14) (v := ?g4xv14) (by simp only [List.getElem?_toArray, List.getElem?_cons_succ, List.getElem?_cons_zero]; rfl) (by kernel_rfl) (by kernel_rfl) (by kernel_rfl) (by exact fun _ _ _ h => h) (Or.inl ⟨by kernel_rfl, ?g4xy14⟩) hHeld ?_
          case g4xy14 => (intro w hSw; (try dsimp only at hSw); skip; go_simp; try (with_reducible rfl))
          try simp only [Act.put, List.setIfInBounds_toArray, List.set_cons_zero, List.set_cons_succ]
          refine wpAnyH_take (i := 16) (v := ?g4xv16) (by simp only [List.getElem?_toArray, List.getElem?_cons_succ, List.getElem?_cons_zero]; rfl) (by kernel_rfl) (by kernel_rfl) (by kernel_rfl) (by exact fun _ _ _ h => h) (Or.inl ⟨by kernel_rfl, ?g4xy16⟩) hHeld ?_
          case g4xy16 => (intro w hSw; (try dsimp only at hSw); skip; go_simp; try (with_reducible rfl))
          try simp only [Act.put, List.setIfInBounds_toArray, List.set_cons_zero, List.set_cons_succ]
          refine wpAnyH_ready (rs := [15]) (by kernel_rfl) (by simp) ?_
          refine AllReadyH.cons (by simp only [List.getElem?_toArray, List.getElem?_cons_succ, List.getElem?_cons_zero]; rfl) (fun KK hKK => ?_) AllReadyH.nil
          rw [if_pos (by kernel_rfl)]
          go_simp
          refine (hHk _).mono ?_
          rintro e w8 ⟨rfl, rfl⟩
          go_wp2_with fail
          refine hKK.out _ _ ?_ (fun hHeld => ?_)
          · exact z0
          clear hKK KK
          try simp only [Act.put, List.setIfInBounds_toArray, List.set_cons_zero, List.set_cons_succ]
          refine wpAnyH_ready (rs := [17]) (by kernel_rfl) (by simp) ?_
          refine AllReadyH.cons (by simp only [List.getElem?_toArray, List.getElem?_cons_succ, List.getElem?_cons_zero]; rfl) (fun KK hKK => ?_) AllReadyH.nil
          rw [if_pos (by kernel_rfl)]
          go_simp
          refine (hRH _).mono ?_
          rintro e w9 ⟨vr, rfl, hrr, h9⟩
          obtain ⟨Ar, cr, br, rfl, -, -, -, -, -, -⟩ := hrr.sl
          rw [HE.out.2.1.held, ← HHL.out]
          have hK9 : KIn w9 w2.heap.size g v5 K1 := HE.out.1.ext (w' := w9) ⟨h9.os, h9.tape, h9.output, h9.size, h9.block⟩
          have z9 : w9.cell? ⟨h, 0, none⟩ = some (.slice Az zl cz) := by rw [(HE.out.2.1.rin.box.ext (w' := w9) ⟨h9.os, h9.tape, h9.output, h9.size, h9.block⟩).c0, HZZ.out.1, ← HZZ.out.2]
          have HK9 := Lib.hid hK9
          have H9 := Lib.hid h9
          clear hK9 hrr h9
          go_wp2_with fail
          refine hKK.out _ _ ?_ (fun hHeld => ?_)
          · exact z9
          clear hKK KK
          try simp only [Act.put, List.setIfInBounds_toArray, List.set_cons_zero, List.set_cons_succ]
          refine wpAnyH_take (i := 18) (v := ?g4xv18) (by simp only [List.getElem?_toArray, List.getElem?_cons_succ, List.getElem?_cons_zero]; rfl) (by kernel_rfl) (by kernel_rfl) (by kernel_rfl) (by exact fun _ _ _ h => h) (Or.inl ⟨by kernel_rfl, ?g4xy18⟩) hHeld ?_
          case g4xy18 => (intro w hSw; (try dsimp only at hSw); skip; go_simp; try (with_reducible rfl))
          try simp only [Act.put, List.setIfInBounds_toArray, List.set_cons_zero, List.set_cons_succ]
          refine wpAnyH_take (i := 19) (v := ?g4xv19) (by simp only [List.getElem?_toArray, List.getElem?_cons_succ, List.getElem?_cons_zero]; rfl) (by kernel_rfl) (by kernel_rfl) (by kernel_rfl) (by exact fun _ _ _ h => h) (Or.inl ⟨by kernel_rfl, ?g4xy19⟩) hHeld ?_
          case g4xy19 => (intro w hSw; (try dsimp only at hSw); skip; go_simp; try (with_reducible rfl))
          try simp only [Act.put, List.setIfInBounds_toArray, List.set_cons_zero, List.set_cons_succ]
          refine wpAnyH_take (i := 20) (v := ?g4xv20) (by simp only [List.getElem?_toArray, List.getElem?_cons_succ, List.getElem?_cons_zero]; rfl) (by kernel_rfl) (by kernel_rfl) (by kernel_rfl) (by exact fun _ _ _ h => h) (Or.inl ⟨by kernel_rfl, ?g4xy20⟩) hHeld ?_
          case g4xy20 => (intro w hSw; (try dsimp only at hSw); skip; go_simp; try (with_reducible rfl))
          try simp only [Act.put, List.setIfInBounds_toArray, List.set_cons_zero, List.set_cons_succ]
          refine wpAnyH_take (i := 21) (v := ?g4xv21) (by simp only [List.getElem?_toArray, List.getElem?_cons_succ, List.getElem?_cons_zero]; rfl) (by kernel_rfl) (by kernel_rfl) (by kernel_rfl) (by exact fun _ _ _ h => h) (Or.inl ⟨by kernel_rfl, ?g4xy21⟩) hHeld ?_
          case g4xy21 => (intro w hSw; (try dsimp only at hSw); skip; go_simp; try (with_reducible rfl))
          try simp only [Act.put, List.setIfInBounds_toArray, List.set_cons_zero, List.set_cons_succ]
          refine wpAnyH_take (i := 23) (v := ?g4xv23) (by simp only [List.getElem?_toArray, List.getElem?_cons_succ, List.getElem?_cons_zero]; rfl) (by kernel_rfl) (by kernel_rfl) (by kernel_rfl) (by exact fun _ _ _ h => h) (Or.inl ⟨by kernel_rfl, ?g4xy23⟩) hHeld ?_
          case g4xy23 => (intro w hSw; (try dsimp only at hSw); skip; go_simp; try (with_reducible rfl))
          try simp only [Act.put, List.setIfInBounds_toArray, List.set_cons_zero, List.set_cons_succ]
          refine wpAnyH_take (i := 24) (v := ?g4xv24) (by simp only [List.getElem?_toArray, List.getElem?_cons_succ, List.getElem?_cons_zero]; rfl) (by kernel_rfl) (by kernel_rfl) (by kernel_rfl) (by exact fun _ _ _ h => h) (Or.inl ⟨by kernel_rfl, ?g4xy24⟩) hHeld ?_
          case g4xy24 => (intro w hSw; (try dsimp only at hSw); skip; go_simp; try (with_reducible rfl))
          try simp only [Act.put, List.setIfInBounds_toArray, List.set_cons_zero, List.set_cons_succ]
          refine wpAnyH_take (i := 25) (v := ?g4xv25) (by simp only [List.getElem?_toArray, List.getElem?_cons_succ, List.getElem?_cons_zero]; rfl) (by kernel_rfl) (by kernel_rfl) (by kernel_rfl) (by exact fun _ _ _ h => h) (Or.inl ⟨by kernel_rfl, ?g4xy25⟩) hHeld ?_
          case g4xy25 => (intro w hSw; (try dsimp only at hSw); skip; go_simp; try (with_reducible rfl))
          try simp only [Act.put, List.setIfInBounds_toArray, List.set_cons_zero, List.set_cons_succ]
          refine wpAnyH_take (i := 26) (v := ?g4xv26) (by simp only [List.getElem?_toArray, List.getElem?_cons_succ, List.getElem?_cons_zero]; rfl) (by kernel_rfl) (by kernel_rfl) (by kernel_rfl) (by exact fun _ _ _ h => h) (Or.inl ⟨by kernel_rfl, ?g4xy26⟩) hHeld ?_
          case g4xy26 => (intro w hSw; (try dsimp only at hSw); skip; go_simp; try (with_reducible rfl))
          try simp only [Act.put, List.setIfInBounds_toArray, List.set_cons_zero, List.set_cons_succ]
          refine wpAnyH_take (i := 27) (v := ?g4xv27) (by simp only [List.getElem?_toArray, List.getElem?_cons_succ, List.getElem?_cons_zero]; rfl) (by kernel_rfl) (by kernel_rfl) (by kernel_rfl) (by exact fun _ _ _ h => h) (Or.inl ⟨by kernel_rfl, ?g4xy27⟩) hHeld ?_
          case g4xy27 => (intro w hSw; (try dsimp only at hSw); skip; go_simp; try (with_reducible rfl))
          try simp only [Act.put, List.setIfInBounds_toArray, List.set_cons_zero, List.set_cons_succ]
          refine wpAnyH_take (i := 28) (v := ?g4xv28) (by simp only [List.getElem?_toArray, List.getElem?_cons_succ, List.getElem?_cons_zero]; rfl) (by kernel_rfl) (by kernel_rfl) (by kernel_rfl) (by exact fun _ _ _ h => h) (Or.inl ⟨by kernel_rfl, ?g4xy28⟩) hHeld ?_
          case g4xy28 => (intro w hSw; (try dsimp only at hSw); skip; go_simp; try (with_reducible rfl))
          try simp only [Act.put, List.setIfInBounds_toArray, List.set_cons_zero, List.set_cons_succ]
          refine wpAnyH_ready (rs := [22]) (by kernel_rfl) (by simp) ?_
          refine AllReadyH.cons (by simp only [List.getElem?_toArray, List.getElem?_cons_succ, List.getElem?_cons_zero]; rfl) (fun KK hKK => ?_) AllReadyH.nil
          rw [if_pos (by kernel_rfl)]
          go_simp
          refine (hOp _ HK9.out).mono ?_
          rintro e w10 ⟨rfl, rfl⟩
          go_wp2_with fail
          refine hKK.out _ _ ?_ (fun hHeld => ?_)
          · exact z9
          clear hKK KK
          try simp only [Act.put, List.setIfInBounds_toArray, List.set_cons_zero, List.set_cons_succ]
          refine wpAnyH_take (i := 29) (v := ?g4xv29) (by simp only [List.getElem?_toArray, List.getElem?_cons_succ, List.getElem?_cons_zero]; rfl) (by kernel_rfl) (by kernel_rfl) (by kernel_rfl) (by exact fun _ _ _ h => h) (Or.inl ⟨by kernel_rfl, ?g4xy29⟩) hHeld ?_
          case g4xy29 => (intro w hSw; (try dsimp only at hSw); skip; go_simp; try (with_reducible rfl))
          try simp only [Act.put, List.setIfInBounds_toArray, List.set_cons_zero, List.set_cons_succ]
          refine wpAnyH_take (i := 30) (v := ?g4xv30) (by simp only [List.getElem?_toArray, List.getElem?_cons_succ, List.getElem?_cons_zero]; rfl) (by kernel_rfl) (by kernel_rfl) (by kernel_rfl) (by exact fun _ _ _ h => h) (Or.inl ⟨by kernel_rfl, ?g4xy30⟩) hHeld ?_
          case g4xy30 => (intro w hSw; (try dsimp only at hSw); skip; go_simp; try (with_reducible rfl))
          try simp only [Act.put, List.setIfInBounds_toArray, List.set_cons_zero, List.set_cons_succ]
          refine wpAnyH_done (by kernel_rfl) ?_ _
          go_wp2_with fail
          have h69 : Below w6.heap.size w6 w10 := ⟨H9.out.os, H9.out.tape, H9.out.output, H9.out.size, H9.out.block⟩
          obtain ⟨hK6, hZ6, hm6, hin6, hm5, hat5⟩ := HE.out
          have hvlt := hK.out.row.lt
          have hzlt := World.ownsRow.lt hZ.out.rin.row
          have hw4 := HW4.out
          have hfar2 : ∀ z ∈ zs6, v5.ownBlock ≠ some z.b ∧ z.b ≠ g := by
            intro z hz
            have hq : v.ownBlock ≠ some z.b ∧ z.b ≠ g ∧ z.b < (w3.setCell ⟨wr.heap.size, 2, none⟩ (.slice A3 d1.length c3)).heap.size := by
              rcases hin6 z hz with h1 | h1
              · obtain ⟨h2, h3⟩ := hfar.out z h1
                have h4 := Bs.lt (hZ.out.rin.ins z h1).1 (by intro e; have := hZ.out.full z h1; rw [e] at this; simp at this)
                have h5 := hw4.size
                exact ⟨h2, h3, by omega⟩
              · rw [h1]
                exact ⟨fun e => by have := (hvlt _ e).2; omega, by omega, hb6u⟩
            refine ⟨?_, hq.2.1⟩
            rcases hat5 with e | e | ⟨j, e, hj⟩
            · rw [e]; exact hq.1
            · rw [e]; simp
            · rw [e]; intro e2; injection e2 with e2; have := hq.2.2; omega
          have hb4 := hbw.trans (hw4.mono hbw.size)
          have hb5 := hb4.trans (hm5.below hb4.size (fun i hi e => by rcases e with e | e; omega; have := (hvlt _ e).1; omega))
          have hb6w := hb5.trans (hm6.below hb5.size (fun i hi e => by rcases e with e | e; omega; have := (hzlt _ e).1; omega))
          have hb10 := hb6w.trans (h69.mono hb6w.size)
          have s1 := hw4.size
          have s2 := hm5.size
          have s3 := hm6.size
          have s4 := h69.size
          exact ⟨⟨k + 1, v5, vz6, zs6, K1, by omega, by go_num, Lib.hid HK9.out, Lib.hid (hZ6.ext h69), Lib.hid (by rw [HK1.out]; exact HP1.out), Lib.hid hfar2, hb10, by omega⟩, by simp [intOf]; omega⟩
    · go_wp2_with fail
      go_ret
      exact ⟨rfl, hbw⟩
end Go.Proofs.Ytgkflgnlodhelaa
