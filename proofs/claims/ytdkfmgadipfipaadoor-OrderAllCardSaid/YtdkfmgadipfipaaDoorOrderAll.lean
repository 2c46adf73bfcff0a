/- OrderAll: the walk. Conditions: the table lies as the library lays it; the numbers fit. -/
import Derived.Test.YtdkfmgadipfipaaDoorOrderAwake
import Derived.Test.YtdkfmgadipfipaaDoorI64
import Derived.Test.YtdkfmgadipfipaaDoorBytes
import Derived.BigRegion
import Derived.Deep.RegionWith
namespace Go.Proofs.YtdkfmgadipfipaaDoor
open Go.RowKit

/-- Places that count up, the first j of 33 laid. -/
def up (j : Nat) : List Nat := List.range j ++ List.replicate (33 - j) 0
theorem up_length {j : Nat} (h : j ≤ 33) : (up j).length = 33 := by simp [up]; omega
theorem up_all : up 33 = List.range 33 := by simp [up]
theorem up_get {j : Nat} (h : j < 33) : (up j)[j]? = some 0 := by
  unfold up
  rw [List.getElem?_append_right (by simp), List.getElem?_replicate, if_pos (by simp; omega)]
theorem up_set {j : Nat} (h : j < 33) : (up j).set j j = up (j + 1) := by
  obtain ⟨r, hr⟩ : ∃ r, 33 - j = r + 1 := ⟨33 - j - 1, by omega⟩
  have hr2 : 33 - (j + 1) = r := by omega
  unfold up
  rw [hr, hr2, List.set_append_right _ _ (by simp), List.range_succ]
  simp [List.replicate_succ]
/-- Two places, turned. -/
theorem swap_perm {ls : List Nat} {i j a b : Nat} (hi : ls[i]? = some a) (hj : ls[j]? = some b) : ((ls.set i b).set j a).Perm ls := by
  have h1 : i < ls.length := (List.getElem?_eq_some_iff.1 hi).1
  have h2 : j < ls.length := (List.getElem?_eq_some_iff.1 hj).1
  have e1 : ls[i] = a := (List.getElem?_eq_some_iff.1 hi).2
  have e2 : ls[j] = b := (List.getElem?_eq_some_iff.1 hj).2
  rw [← e1, ← e2]
  exact List.set_set_perm h1 h2

theorem Tab.via {w1 w w' : World} (h : Tab w1) (hw : Tab w) (hb : Below w1.heap.size w w') : Tab w' := fun j hj => by
  exact (hb.cell (World.block_lt_of_cell? w1 _ (h j hj))).trans (hw j hj)
theorem Bs.via {w1 w w' : World} {b : Nat} {A : Option Addr} {l : List UInt8} (h : Bs w1 b A l) (hw : Bs w b A l) (hb : Below w1.heap.size w w') : Bs w' b A l := by
  by_cases hl : l = []
  · subst hl; exact Sl.nil_ _ _ _
  · exact Sl.below hw hb (Bs.lt h hl)
theorem int_info : (Tryd.prog.info? 3).map (fun i => (i.zero, i.size, i.bytes)) = some (some (.int .i64 0), 1, 8) := by kernel_rfl
theorem made_up : (madeCells (Value.int .i64 0).cells (33 * 1)).toList = ints (up 0) := by kernel_rfl
set_option maxHeartbeats 8000000 in
set_option maxRecDepth 20000 in
theorem OrderAll_walk (first : Nat) (A : Option Addr) (l : List UInt8) (n c b : Nat) (w : World) (hTab : Tab w) (hf : first ≤ 65535) (hs : Bs w b A l) (hn : l.length = n) (_hnm : n ≤ maxLen) :
    Calls Tryd.prog 5 #[.int .u16 first, .slice A n c] w fun e w' => e = .returned (.bool true) ∧ Below w.heap.size w w' := by
  have HN := Lib.hid hn
  clear hn
  go_enter Tryd.func5, Tryd.ntmps5
  go_wp2_with fail
  refine (Awake_calls _ hTab).mono ?_
  rintro e w1 ⟨rfl, hb1⟩
  have t1 := Tab.ext hTab hb1
  have hs1 := Sl.ext hs hb1
  clear hTab hs
  go_wp2_with fail
  obtain ⟨i0, hi0, hz0, hz1, hz2⟩ := info_parts int_info
  obtain ⟨w3, hmk, hrow3, hg3⟩ := run_make_full (P := Tryd.prog) w1 w1.heap.size 48 3 i0 _ 1 Tryd.underlying48 hi0 hz0 hz1 .i64 .i64 33 (by rw [hz2]; omega) (by simp only [maxLen]; omega) (Nat.le_refl _)
  have hm3 := Mod.of_grown hg3
  have hb3 : Below w1.heap.size w1 w3 := hm3.below (Nat.le_refl _) (fun i _ h => by cases h)
  rw [made_up] at hrow3
  rw [show ((33 : Nat) : Int) = 33 by rfl] at hmk
  rw [hmk]
  simp only [Result.andThen_ok]
  have t3 := Tab.ext t1 hb3
  have hs3 := Sl.ext hs1 hb3
  have hb := hb1.trans (hb3.mono hb1.size)
  have hG := hb1.size
  have hb3s := hb3.size
  have hsg := fun (w' : World) (h : Below w1.heap.size w3 w') => Bs.via hs1 hs3 h
  have htg := fun (w' : World) (h : Below w1.heap.size w3 w') => Tab.via t1 t3 h
  clear hmk hg3 hm3 hi0 hz0 hz1 hz2 hb3 t1 hs1 hb1 t3 hs3
  go_wp2_with fail
  go_loopw [22] (fun i wr => ∃ j : Nat, j ≤ 33 ∧ i = .int .i64 j ∧ wr.ownsRow w1.heap.size 3 1 (.slice (some ⟨w1.heap.size, 0, none⟩) 33 33) 33 (ints (up j)) ∧ Below w.heap.size w wr ∧ Below w1.heap.size w3 wr) (fun i _ => 33 - (intOf i).toNat)
  case atStart => exact ⟨0, Nat.zero_le _, rfl, hrow3, hb, (Below.refl _ _).mono hb3s⟩
  case round =>
    obtain ⟨j, hj, rfl, hr, hb, hm⟩ := hrel
    by_cases hlt : j < 33
    · obtain ⟨g', cap, hv, _, _, _, hcell, hfr, _⟩ := own_set hr (by omega)
      injection hv with hA hA2 hA3
      injection hA with hA
      injection hA with hA hA4 hA5
      subst hA
      clear hA2 hA3 hA4 hA5
      have hcj := hcell j (.int .i64 (0 : Nat)) (ints_get? (up_get hlt))
      have hfj := hfr j
      have HR := Lib.hid (own_set2 (by omega) hr j (.int .i64 (j : Int)))
      have e1 : (j : Int) < 33 := by omega
      clear hcell hfr hrow3
      go_wp2_with fail
      go_roundw
      case rel => exact ⟨j + 1, by omega, by go_num, by rw [← up_set hlt, ← ints_set]; exact HR.out, hb.setCell hG _, hm.setCell (Nat.le_refl _) _⟩
      case measure => simp [intOf]; omega
    · obtain rfl : j = 33 := by omega
      rw [up_all] at hr
      have t4 : Tab wr := htg wr hm
      have hs4 : Bs wr b A l := hsg wr hm
      clear hrow3 hlt
      go_wp2_with fail
      go_loopw [32] (fun i wx => ∃ (j : Nat) (ls : List Nat), j ≤ n ∧ j ≤ 100 ∧ i = .int .i64 j ∧ Hid (ls.Perm (List.range 33)) ∧ wx.ownsRow w1.heap.size 3 1 (.slice (some ⟨w1.heap.size, 0, none⟩) 33 33) 33 (ints ls) ∧ Below w.heap.size w wx ∧ Below w1.heap.size w3 wx) (fun i _ => n - (intOf i).toNat)
      case atStart => exact ⟨0, List.range 33, Nat.zero_le _, Nat.zero_le _, rfl, Lib.hid (List.Perm.refl _), hr, hb, hm⟩
      case round =>
        obtain ⟨j, ls, hjn, hj1, rfl, hperm, hr, hb, hm⟩ := hrel
        have hs5 := hsg _ hm
        by_cases hlt : j < n
        · obtain ⟨off, rfl, hcl⟩ := Bs.at_ hs5 (k := j) (by rw [HN.out]; exact hlt)
          have hcj := hcl j (by rw [HN.out]; exact hlt)
          obtain ⟨t, ht⟩ : ∃ t, t = (l[j]'(by rw [HN.out]; exact hlt)).toNat := ⟨_, rfl⟩
          rw [← ht] at hcj
          have htw : wrap64 (t : Int) = (t : Int) := by have : t < 256 := by { rw [ht]; exact UInt8.toNat_lt _ }; exact IntWalk.wrap64_in _ (by omega)
          clear ht hcl hs5
          by_cases hlt2 : j < 100
          · obtain ⟨a, ha⟩ : ∃ a, a = j % 33 := ⟨_, rfl⟩
            obtain ⟨q, hq⟩ : ∃ q, q = t % 33 := ⟨_, rfl⟩
            have ha1 : Int.tmod (j : Int) 33 = (a : Int) := by rw [Int.tmod_eq_emod_of_nonneg (by omega)]; omega
            have hq1 : Int.tmod (t : Int) 33 = (q : Int) := by rw [Int.tmod_eq_emod_of_nonneg (by omega)]; omega
            have ha2 : (a : Int) < 33 := by omega
            have hq2 : (q : Int) < 33 := by omega
            have hll : ls.length = 33 := by rw [hperm.out.length_eq]; simp
            obtain ⟨x, hx⟩ : ∃ x, ls[a]? = some x := ⟨_, List.getElem?_eq_getElem (by omega)⟩
            obtain ⟨y, hy⟩ : ∃ y, ls[q]? = some y := ⟨_, List.getElem?_eq_getElem (by omega)⟩
            obtain ⟨g', cap, hv, _, _, _, hcell, hfr, _⟩ := own_set hr (by omega)
            injection hv with hA hA2 hA3
            injection hA with hA
            injection hA with hA hA4 hA5
            subst hA
            clear hA2 hA3 hA4 hA5
            have hca := hcell a _ (ints_get? hx)
            have hcq := hcell q _ (ints_get? hy)
            have hfa := hfr a
            have hfq := hfr q
            have HP := Lib.hid (swap_perm hx hy)
            clear hcell hfr ha hq hll hx hy
            go_wp2_with fail
            have hrD := fun k => own_mod hr (Mod.drewN (fun _ => False) wr k) (fun _ _ h => h)
            go_quiet (fail)
            go_wp2_with fail
            by_cases hqa : q = a
            · subst hqa
              obtain rfl : x = y := by
                have := hca.symm.trans hcq
                simp only [Option.some.injEq, Value.int.injEq, true_and] at this
                omega
              go_region
              go_wp2_with fail
              go_roundw
              case rel => exact ⟨j + 1, (ls.set q x).set q x, by omega, by omega, by go_num, Lib.hid (HP.out.trans hperm.out), by rw [← ints_set, ← ints_set]; exact own_set2 (by omega) (own_set2 (by omega) (hrD _) q _) q _, ((below_drewN hb _).setCell hG _).setCell hG _, ((below_drewN hm _).setCell (Nat.le_refl w1.heap.size) _).setCell (Nat.le_refl w1.heap.size) _⟩
              case measure => simp [intOf]; omega
            · have hne : ¬ (a = q) := fun h => hqa h.symm
              go_region
              go_wp2_with fail
              go_roundw
              case rel => exact ⟨j + 1, (ls.set a y).set q x, by omega, by omega, by go_num, Lib.hid (HP.out.trans hperm.out), by rw [← ints_set, ← ints_set]; exact own_set2 (by omega) (own_set2 (by omega) (hrD _) a _) q _, ((below_drewN hb _).setCell hG _).setCell hG _, ((below_drewN hm _).setCell (Nat.le_refl w1.heap.size) _).setCell (Nat.le_refl w1.heap.size) _⟩
              case measure => simp [intOf]; omega
          · have hge : (100 : Int) ≤ (j : Int) := by omega
            go_wp2_with fail
            obtain ⟨y1, hy1⟩ : ∃ y1, y1 = wr.alloc (.cells #[.int .u16 (first : Int), .int .u32 0] 34) := ⟨_, rfl⟩
            obtain ⟨G, hG2⟩ : ∃ G, G = wr.heap.size := ⟨_, rfl⟩
            have t5 : Tab y1 := by rw [hy1]; exact Tab.ext (htg _ hm) (below_alloc1 wr _)
            have q0 : Box2 y1 G (.int .u16 (first : Int)) (.int .u32 (0 : Nat)) := by rw [hy1, hG2]; exact Box2.new_ wr _ _
            have r5 : y1.ownsRow w1.heap.size 3 1 (.slice (some ⟨w1.heap.size, 0, none⟩) 33 33) 33 (ints ls) := by rw [hy1]; exact own_ext hr (below_alloc1 wr _)
            have b5 : Below w.heap.size w y1 := by rw [hy1]; exact hb.alloc hb.size _
            have HTW : Hid (∀ u u', Tab u → Below G u u' → Tab u') := Lib.hid (fun u u' h hb => by rw [hG2] at hb; exact Tab.via (htg _ hm) h hb)
            have hGG : w.heap.size ≤ G := by rw [hG2]; exact hb.size
            have hne : w1.heap.size ≠ G := by
              have := World.ownsRow.lt hr w1.heap.size rfl
              omega
            rw [← hy1, ← hG2]
            have hll : ls.length = 33 := by rw [hperm.out.length_eq]; simp
            have hin : ∀ k ∈ ls, k < 33 := fun k hk => List.mem_range.1 (hperm.out.subset hk)
            have hnd : ls.Nodup := hperm.out.nodup_iff.2 List.nodup_range
            have hall : ∀ k, k < 33 → k ∈ ls := fun k hk => hperm.out.mem_iff.2 (List.mem_range.2 hk)
            have HL := Lib.hid hll
            have HI := Lib.hid hin
            have HD := Lib.hid hnd
            have HA := Lib.hid hall
            clear hy1 hG2 hr hb hm hsg htg hll hin hnd hall
            go_wp2_with fail
            go_loopw [65] (fun i wy => ∃ (j x y : Nat), j ≤ 33 ∧ i = .int .i64 j ∧ Hid (Came first (ls.take j).reverse x y) ∧ Box2 wy G (.int .u16 (x : Int)) (.int .u32 (y : Int)) ∧ wy.ownsRow w1.heap.size 3 1 (.slice (some ⟨w1.heap.size, 0, none⟩) 33 33) 33 (ints ls) ∧ Below w.heap.size w wy ∧ Tab wy) (fun i _ => 33 - (intOf i).toNat)
            case atStart => exact ⟨0, first, 0, Nat.zero_le _, rfl, Lib.hid (by simpa using Came.none first (by omega)), q0, r5, b5, t5⟩
            case round =>
              obtain ⟨j, x, y, hj33, rfl, HC, q0, r5, b5, t5⟩ := hrel
              by_cases hlt : j < 33
              · have hx5 : x < 65536 := by obtain ⟨m, _, h, _⟩ := HC.out; omega
                have hy5 : y < 4294967296 := by obtain ⟨m, _, _, h, _⟩ := HC.out; exact h
                obtain ⟨k, hk⟩ : ∃ k, ls[j]? = some k := ⟨_, List.getElem?_eq_getElem (by rw [HL.out]; exact hlt)⟩
                have hk33 : k < 33 := HI.out k (List.mem_of_getElem? hk)
                have htk : (ls.take (j + 1)).reverse = k :: (ls.take j).reverse := by
                  rw [List.take_add_one, hk]; simp
                have hnin : k ∉ (ls.take j).reverse := by
                  rw [List.mem_reverse]
                  intro hin
                  obtain ⟨i, hi, e⟩ := List.getElem_of_mem hin
                  have hi2 : i < j := by rw [List.length_take] at hi; omega
                  have e2 : ls[i]? = some k := by rw [← e, List.getElem_take, ← List.getElem?_eq_getElem]
                  have := (List.getElem?_inj (by rw [HL.out]; omega) HD.out).1 (e2.trans hk.symm)
                  omega
                obtain ⟨x', y', hnote, hC'⟩ := Came.note (by omega) HC.out (fun k hk => HI.out k (List.mem_of_mem_take (List.mem_reverse.1 hk))) hk33 hnin
                rw [← htk] at hC'
                obtain ⟨r, hr⟩ : ∃ r, r = (first + k) % 65536 := ⟨_, rfl⟩
                have hA := fun W => Add_calls first (k : Int) r W (by omega)
                have hN := fun W h => Note_calls x y r W h hx5 hy5 (by omega)
                rw [← hr] at hnote
                rw [hnote] at hN
                simp only [noteV] at hN
                have hck := (own_set r5 (by omega))
                obtain ⟨g', cap, hv, _, _, _, hcell, _, _⟩ := hck
                injection hv with hA1 hA2 hA3
                injection hA1 with hA1
                injection hA1 with hA1 hA4 hA5
                subst hA1
                have hcj := hcell j _ (ints_get? hk)
                have c0 := q0.c0
                have c1 := q0.c1
                have f0 := q0.f 0
                have f1 := q0.f 1
                have HC' := Lib.hid hC'
                have ej : (j : Int) < 33 := by omega
                clear hA2 hA3 hA4 hA5 hcell hk hk33 htk hnin hr hnote hC' HC hx5 hy5
                go_wp2_with fail
                go_region_with (first
                  | (go_at_call 10; (refine (hA _).mono ?_); rintro e w5 ⟨rfl, rfl⟩)
                  | (go_at_call 16; (refine (hN wr.drew t5).mono ?_); rintro e w5 ⟨rfl, hb5⟩; have q5 := Box2.ext (w := wr.drew) q0 hb5; have t6 := Tab.ext (w := wr.drew) t5 hb5; have r6 := own_ext (w := wr.drew) r5 hb5; have b6 := (below_drew b5).trans (hb5.mono b5.size); have d0 := q5.c0; have d1 := q5.c1; have g0 := q5.f 0; have g1 := q5.f 1; clear q0 t5 r5 b5 c0 c1 f0 f1 hb5))
                all_goals (
                  go_wp2_with fail
                  refine ⟨⟨_, _, _, _, _, _, _, _, _, _, _, _, _, _, _, _, _, _, ⟨j + 1, x', y', by omega, by go_num, HC', (q5.set0 _).set1 _, own_mod (own_mod r6 (Mod.setCell _ _ _) (by intro i hi h; injection hi with hi; exact hne (hi.trans h))) (Mod.setCell _ _ _) (by intro i hi h; injection hi with hi; exact hne (hi.trans h)), (b6.setCell hGG _).setCell hGG _, HTW.out _ _ t6 (((Below.refl G _).setCell (p := ⟨G, 0, none⟩) (Nat.le_refl G) _).setCell (p := ⟨G, 1, none⟩) (Nat.le_refl G) _)⟩, rfl⟩, by simp [intOf]; omega⟩)
              · obtain rfl : j = 33 := by omega
                have hfin := Came.all HC.out (fun k hk => HI.out k (List.mem_of_mem_take (List.mem_reverse.1 hk))) (fun k hk => by
                  rw [List.mem_reverse, List.take_of_length_le (by rw [HL.out]; omega)]
                  exact HA.out k hk)
                obtain ⟨rfl, rfl⟩ := hfin
                have hA := fun W => Add_calls first 33 ((first + 33) % 65536) W (by omega)
                obtain ⟨r, hr⟩ : ∃ r, r = (first + 33) % 65536 := ⟨_, rfl⟩
                rw [← hr] at hA q0
                have c0 := q0.c0
                have c1 := q0.c1
                clear hr HC HTW t5 r5
                go_wp2_with fail
                go_quiet ((go_at_call 10; exact Calls.quiet_of_same (hA _)))
                go_wp2_with fail
                go_ret
                exact ⟨rfl, by first | exact b5 | exact below_drew b5 | exact below_drewN b5 _⟩
        · obtain rfl : n = j := by omega
          go_wp2_with fail
          obtain ⟨y1, hy1⟩ : ∃ y1, y1 = wr.alloc (.cells #[.int .u16 (first : Int), .int .u32 0] 34) := ⟨_, rfl⟩
          obtain ⟨G, hG2⟩ : ∃ G, G = wr.heap.size := ⟨_, rfl⟩
          have t5 : Tab y1 := by rw [hy1]; exact Tab.ext (htg _ hm) (below_alloc1 wr _)
          have q0 : Box2 y1 G (.int .u16 (first : Int)) (.int .u32 (0 : Nat)) := by rw [hy1, hG2]; exact Box2.new_ wr _ _
          have r5 : y1.ownsRow w1.heap.size 3 1 (.slice (some ⟨w1.heap.size, 0, none⟩) 33 33) 33 (ints ls) := by rw [hy1]; exact own_ext hr (below_alloc1 wr _)
          have b5 : Below w.heap.size w y1 := by rw [hy1]; exact hb.alloc hb.size _
          have HTW : Hid (∀ u u', Tab u → Below G u u' → Tab u') := Lib.hid (fun u u' h hb => by rw [hG2] at hb; exact Tab.via (htg _ hm) h hb)
          have hGG : w.heap.size ≤ G := by rw [hG2]; exact hb.size
          have hne : w1.heap.size ≠ G := by
            have := World.ownsRow.lt hr w1.heap.size rfl
            omega
          rw [← hy1, ← hG2]
          have hll : ls.length = 33 := by rw [hperm.out.length_eq]; simp
          have hin : ∀ k ∈ ls, k < 33 := fun k hk => List.mem_range.1 (hperm.out.subset hk)
          have hnd : ls.Nodup := hperm.out.nodup_iff.2 List.nodup_range
          have hall : ∀ k, k < 33 → k ∈ ls := fun k hk => hperm.out.mem_iff.2 (List.mem_range.2 hk)
          have HL := Lib.hid hll
          have HI := Lib.hid hin
          have HD := Lib.hid hnd
          have HA := Lib.hid hall
          clear hy1 hG2 hr hb hm hsg htg hll hin hnd hall
          go_wp2_with fail
          go_loopw [65] (fun i wy => ∃ (j x y : Nat), j ≤ 33 ∧ i = .int .i64 j ∧ Hid (Came first (ls.take j).reverse x y) ∧ Box2 wy G (.int .u16 (x : Int)) (.int .u32 (y : Int)) ∧ wy.ownsRow w1.heap.size 3 1 (.slice (some ⟨w1.heap.size, 0, none⟩) 33 33) 33 (ints ls) ∧ Below w.heap.size w wy ∧ Tab wy) (fun i _ => 33 - (intOf i).toNat)
          case atStart => exact ⟨0, first, 0, Nat.zero_le _, rfl, Lib.hid (by simpa using Came.none first (by omega)), q0, r5, b5, t5⟩
          case round =>
            obtain ⟨j, x, y, hj33, rfl, HC, q0, r5, b5, t5⟩ := hrel
            by_cases hlt : j < 33
            · have hx5 : x < 65536 := by obtain ⟨m, _, h, _⟩ := HC.out; omega
              have hy5 : y < 4294967296 := by obtain ⟨m, _, _, h, _⟩ := HC.out; exact h
              obtain ⟨k, hk⟩ : ∃ k, ls[j]? = some k := ⟨_, List.getElem?_eq_getElem (by rw [HL.out]; exact hlt)⟩
              have hk33 : k < 33 := HI.out k (List.mem_of_getElem? hk)
              have htk : (ls.take (j + 1)).reverse = k :: (ls.take j).reverse := by
                rw [List.take_add_one, hk]; simp
              have hnin : k ∉ (ls.take j).reverse := by
                rw [List.mem_reverse]
                intro hin
                obtain ⟨i, hi, e⟩ := List.getElem_of_mem hin
                have hi2 : i < j := by rw [List.length_take] at hi; omega
                have e2 : ls[i]? = some k := by rw [← e, List.getElem_take, ← List.getElem?_eq_getElem]
                have := (List.getElem?_inj (by rw [HL.out]; omega) HD.out).1 (e2.trans hk.symm)
                omega
              obtain ⟨x', y', hnote, hC'⟩ := Came.note (by omega) HC.out (fun k hk => HI.out k (List.mem_of_mem_take (List.mem_reverse.1 hk))) hk33 hnin
              rw [← htk] at hC'
              obtain ⟨r, hr⟩ : ∃ r, r = (first + k) % 65536 := ⟨_, rfl⟩
              have hA := fun W => Add_calls first (k : Int) r W (by omega)
              have hN := fun W h => Note_calls x y r W h hx5 hy5 (by omega)
              rw [← hr] at hnote
              rw [hnote] at hN
              simp only [noteV] at hN
              have hck := (own_set r5 (by omega))
              obtain ⟨g', cap, hv, _, _, _, hcell, _, _⟩ := hck
              injection hv with hA1 hA2 hA3
              injection hA1 with hA1
              injection hA1 with hA1 hA4 hA5
              subst hA1
              have hcj := hcell j _ (ints_get? hk)
              have c0 := q0.c0
              have c1 := q0.c1
              have f0 := q0.f 0
              have f1 := q0.f 1
              have HC' := Lib.hid hC'
              have ej : (j : Int) < 33 := by omega
              clear hA2 hA3 hA4 hA5 hcell hk hk33 htk hnin hr hnote hC' HC hx5 hy5
              go_wp2_with fail
              go_region_with (first
                | (go_at_call 10; (refine (hA _).mono ?_); rintro e w5 ⟨rfl, rfl⟩)
                | (go_at_call 16; (refine (hN wr.drew t5).mono ?_); rintro e w5 ⟨rfl, hb5⟩; have q5 := Box2.ext (w := wr.drew) q0 hb5; have t6 := Tab.ext (w := wr.drew) t5 hb5; have r6 := own_ext (w := wr.drew) r5 hb5; have b6 := (below_drew b5).trans (hb5.mono b5.size); have d0 := q5.c0; have d1 := q5.c1; have g0 := q5.f 0; have g1 := q5.f 1; clear q0 t5 r5 b5 c0 c1 f0 f1 hb5))
              all_goals (
                go_wp2_with fail
                refine ⟨⟨_, _, _, _, _, _, _, _, _, _, _, _, _, _, _, _, _, _, ⟨j + 1, x', y', by omega, by go_num, HC', (q5.set0 _).set1 _, own_mod (own_mod r6 (Mod.setCell _ _ _) (by intro i hi h; injection hi with hi; exact hne (hi.trans h))) (Mod.setCell _ _ _) (by intro i hi h; injection hi with hi; exact hne (hi.trans h)), (b6.setCell hGG _).setCell hGG _, HTW.out _ _ t6 (((Below.refl G _).setCell (p := ⟨G, 0, none⟩) (Nat.le_refl G) _).setCell (p := ⟨G, 1, none⟩) (Nat.le_refl G) _)⟩, rfl⟩, by simp [intOf]; omega⟩)
            · obtain rfl : j = 33 := by omega
              have hfin := Came.all HC.out (fun k hk => HI.out k (List.mem_of_mem_take (List.mem_reverse.1 hk))) (fun k hk => by
                rw [List.mem_reverse, List.take_of_length_le (by rw [HL.out]; omega)]
                exact HA.out k hk)
              obtain ⟨rfl, rfl⟩ := hfin
              have hA := fun W => Add_calls first 33 ((first + 33) % 65536) W (by omega)
              obtain ⟨r, hr⟩ : ∃ r, r = (first + 33) % 65536 := ⟨_, rfl⟩
              rw [← hr] at hA q0
              have c0 := q0.c0
              have c1 := q0.c1
              clear hr HC HTW t5 r5
              go_wp2_with fail
              go_quiet ((go_at_call 10; exact Calls.quiet_of_same (hA _)))
              go_wp2_with fail
              go_ret
              exact ⟨rfl, by first | exact b5 | exact below_drew b5 | exact below_drewN b5 _⟩
end Go.Proofs.YtdkfmgadipfipaaDoor
