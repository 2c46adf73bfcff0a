/- FrameEnds: the walk. Conditions: the numbers fit. -/
import Derived.Test.YtcbhochfdnbaaaaFrL
import Derived.Test.YtcbhochfdnbaaaaRowSet
namespace Go.Proofs.Ytcbhochfdnbaaaa
open Go.RowKit
set_option linter.unusedVariables false

theorem at_mkS {P : Program} {ops : Array Oper} {rest : List Oper} {a : Act} {w : World} {Q : Exit → Act → World → Prop} {d : Option Tmp} {ty : TypeId} {pos : String} {af : Array Edge} {g : Option (Nat × Bool)} (T : TypeId) (x y : Tmp) (h : wpList P ops Q (Oper.mk d (.makeSlice T (.tmp x) (.tmp y)) ty pos af g :: rest) a w) : wpList P ops Q (Oper.mk d (.makeSlice T (.tmp x) (.tmp y)) ty pos af g :: rest) a w := h
theorem made_u8 (n : Nat) : (madeCells (Value.int .u8 0).cells (n * 1)).toList = bv (List.replicate n 0) := by
  apply List.ext_getElem (by simp [madeCells])
  intro j h1 h2
  simp [madeCells, Value.cells, bv]
  rw [Nat.mod_one]
  rfl
theorem fill_next (n k : Nat) (x : UInt8) (hk : k < n) : (List.replicate k x ++ List.replicate (n - k) 0).set k x = List.replicate (k + 1) x ++ List.replicate (n - (k + 1)) 0 := by
  obtain ⟨r, hr⟩ : ∃ r, n - k = r + 1 := ⟨n - k - 1, by omega⟩
  rw [List.set_append_right _ _ (by simp), List.length_replicate, Nat.sub_self, hr, List.replicate_succ, List.set_cons_zero, show n - (k + 1) = r by omega, List.replicate_succ']
  simp

set_option maxHeartbeats 8000000 in
set_option maxRecDepth 20000 in
theorem FrameEnds_walk (ep sq nx bi sz b how : Nat) (w : World) (hep : ep ≤ 65535) (hsq : sq ≤ 65535) (hnx : nx ≤ 65535) (hbi : bi ≤ 4294967295) (hsz : sz ≤ 255) (hb8 : b ≤ 255) (hhow : how ≤ 255) :
    Calls Try.prog 9 #[.int .u16 ep, .int .u16 sq, .int .u16 nx, .int .u32 bi, .int .u8 sz, .int .u8 b, .int .u8 how] w fun e w' => e = .returned (.bool true) ∧ Below w.heap.size w w' := by
  obtain ⟨m, hm⟩ : ∃ m, m = sz % 70 := ⟨_, rfl⟩
  have e1 : (sz : Int) % 70 = (m : Int) := by omega
  have e2 : IntKind.u8.wrap (m : Int) = (m : Int) := IntWalk.u8_in _ (by omega)
  have e3 : (sz : Int).tmod 70 = (m : Int) := by rw [Int.tmod_eq_emod_of_nonneg (by omega)]; omega
  have hm70 : m < 70 := by omega
  clear hm
  obtain ⟨x8, hx8⟩ : ∃ x : UInt8, x.toNat = b := ⟨UInt8.ofNat b, by simp; omega⟩
  obtain ⟨i0, hi0, hz0, hz1, hz2⟩ := info_parts byte_info
  go_enter Try.func9, Try.ntmps9
  go_wp2_with fail
  refine (awake_calls _).mono ?_
  rintro e w1 ⟨rfl, hb⟩
  go_wp2_with (refine at_mkS 27 24 24 ?_; go_loud (refine wpList_make_full _ rfl (.tmp 24) (.tmp 24) 27 rfl w1.heap.size 5 i0 _ 1 Try.underlying27 hi0 hz0 hz1 _ _ (m : Int) (m : Int) m rfl rfl rfl rfl (by rw [hz2]; omega) (by simp only [maxLen]; omega) (Nat.le_refl _) ?_); intro w2 hown hgr)
  rw [made_u8] at hown
  have hb2 : Below w1.heap.size w1 w2 := (Mod.of_grown hgr).below (Nat.le_refl _) (fun i _ h => by cases h)
  have hg0 := hb.size
  replace hb := hb.trans (hb2.mono hb.size)
  obtain ⟨g, hg⟩ : ∃ g, g = w1.heap.size := ⟨_, rfl⟩
  have hown0 : Row w2 w1.heap.size (.slice (some ⟨w1.heap.size, 0, none⟩) m m) (List.replicate 0 x8 ++ List.replicate (m - 0) 0) := by unfold Row; simpa using hown
  rw [← hg] at hown0 hg0 ⊢
  clear hown hgr hg hi0 hz0 hz1 hz2 e1 e2 e3 hb2
  go_loopw [28] (fun i wr => ∃ k : Nat, k ≤ m ∧ i = .int .i64 k ∧ Hid (Row wr g (.slice (some ⟨g, 0, none⟩) m m) (List.replicate k x8 ++ List.replicate (m - k) 0)) ∧ Below w.heap.size w wr) (fun i _ => m - (intOf i).toNat)
  case atStart => exact ⟨0, Nat.zero_le _, rfl, Lib.hid hown0, hb⟩
  case round =>
    obtain ⟨k, hk, rfl, hown, hbw⟩ := hrel
    by_cases hlt : k < m
    · have hll : (List.replicate k x8 ++ List.replicate (m - k) (0 : UInt8)).length = m := by simp; omega
      obtain ⟨g', cap, hv, -, hgl, hcell, hfr, hset⟩ := Row.set_ hown.out (k := k) (by rw [hll]; exact hlt)
      injection hv with hv hz1 hz2
      injection hv with hv
      injection hv with hv hz3 hz4
      subst hv
      clear hz1 hz2 hz3 hz4
      have hnext := fill_next m k x8 hlt
      have HSET := Lib.hid (fun w' (h : w'.heap[g]? = (wr.setCell ⟨g, k, none⟩ (.int .u8 (b : Int))).heap[g]?) => hset x8 b w' hx8.symm h)
      replace hcell : ∃ u, wr.cell? ⟨g, k, none⟩ = some u := ⟨_, hcell⟩
      obtain ⟨u0, hcell⟩ := hcell
      clear hset hll
      go_wp2_with fail
      refine ⟨⟨k + 1, by omega, by go_num, Lib.hid ?_, hbw.trans ((Mod.setCell wr ⟨g, k, none⟩ _).below hbw.size (fun i hi h => by have h2 : i = g := h; omega))⟩, by simp [intOf]; omega⟩
      have := HSET.out (wr.setCell ⟨g, k, none⟩ (.int .u8 (b : Int))) rfl
      rw [hnext] at this
      exact this
    · have hkm : k = m := by omega
      obtain ⟨D, hD⟩ : ∃ D, D = List.replicate m x8 := ⟨_, rfl⟩
      have hDl : D.length = m := by rw [hD]; simp
      have hs : Bs wr g (some ⟨g, 0, none⟩) D := by
        have h := hown.out
        rw [hkm, Nat.sub_self, List.replicate_zero, List.append_nil, ← hD] at h
        exact (Row.bs_ h).2.2
      obtain ⟨fi, hfi⟩ : ∃ z, z = ((how : Int) % 2 == 1) := ⟨_, rfl⟩
      obtain ⟨la, hla⟩ : ∃ z, z = ((how : Int) / 2 % 2 == 1) := ⟨_, rfl⟩
      have e1 := hfi.symm
      have e2 := hla.symm
      clear hfi hla hD hown hkm
      have q : (wr.alloc (.cells #[.int .u16 (ep : Int), .int .u16 (sq : Int), .int .u16 (nx : Int), .int .u32 (bi : Int), .bool fi, .bool la, .bool false, .slice (some ⟨g, 0, none⟩) m m] 29)).heap[wr.heap.size]? = some (.cells #[.int .u16 (ep : Int), .int .u16 (sq : Int), .int .u16 (nx : Int), .int .u32 (bi : Int), .bool fi, .bool la, .bool false, .slice (some ⟨g, 0, none⟩) m m] 29 (0, 0)) := heap_alloc_new wr _
      have ha := below_alloc1 wr (.cells #[.int .u16 (ep : Int), .int .u16 (sq : Int), .int .u16 (nx : Int), .int .u32 (bi : Int), .bool fi, .bool la, .bool false, .slice (some ⟨g, 0, none⟩) m m] 29)
      replace hs := Sl.ext hs ha
      have hb3 := hbw.trans (ha.mono hbw.size)
      clear ha
      go_wp2_with fail
      by_cases h64 : m ≤ 64
      · obtain ⟨f0, hf0⟩ : ∃ f0 : Fr, f0 = ⟨ep, sq, nx, bi, fi, la, false, D⟩ := ⟨_, rfl⟩
        have ho : f0.Ok := by rw [hf0]; exact ⟨by simp only; omega, by simp only; omega, by simp only; omega, by simp only; omega⟩
        have hr : f0.right = true := by rw [hf0]; simp [Fr.right]; omega
        have hlen : (sealedL f0.raw).length = 17 + m := by rw [raw_length f0 hr, hf0, hDl]
        have hgt : ¬ 64 < (m : Int) := by omega
        have hP := fun A c b W h hc => LParse ep sq nx bi sq fi la false D m (17 + m) A c b rfl hDl W f0 hf0 ho hr h hlen hc
        refine (LBytes_yes ep sq nx bi sq fi la false (some ⟨g, 0, none⟩) D m m g rfl hDl _ f0 hf0 ho hs hr).mono ?_
        rintro e w3 ⟨v, rfl, hrow, h1⟩
        obtain ⟨A2, c2, b2, rfl, hc2, -, -, -, hs2, -⟩ := hrow.sl
        rw [hlen] at hc2
        rw [hlen]
        replace q := box_ext q h1
        replace hs := Sl.ext hs h1
        replace hb3 := hb3.trans (h1.mono hb3.size)
        clear h1 hrow
        go_wp2_with fail
        refine (hP A2 c2 b2 _ hs2 hc2).mono ?_
        rintro e w4 ⟨A3, c3, b3, rfl, hs3, -, h1⟩
        replace q := box_ext q h1
        replace hs := Sl.ext hs h1
        replace hb3 := hb3.trans (h1.mono hb3.size)
        clear h1 hs2 hP
        have ha := below_alloc1 w4 (.cells #[.int .u16 (ep : Int), .int .u16 (sq : Int), .int .u16 (nx : Int), .int .u32 (bi : Int), .bool fi, .bool la, .bool false, .slice A3 m c3] 29)
        have q3 : (w4.alloc (.cells #[.int .u16 (ep : Int), .int .u16 (sq : Int), .int .u16 (nx : Int), .int .u32 (bi : Int), .bool fi, .bool la, .bool false, .slice A3 m c3] 29)).heap[w4.heap.size]? = some (.cells #[.int .u16 (ep : Int), .int .u16 (sq : Int), .int .u16 (nx : Int), .int .u32 (bi : Int), .bool fi, .bool la, .bool false, .slice A3 m c3] 29 (0, 0)) := heap_alloc_new w4 _
        replace q := box_ext q ha
        replace hs := Sl.ext hs ha
        replace hs3 := Sl.ext hs3 ha
        replace hb3 := hb3.trans (ha.mono hb3.size)
        obtain ⟨k0, k1, k2, k3, k4, k5, k6, k7⟩ := box8_all q
        have hl1 : (((17 + m : Nat) : Int) == 17 + (m : Int)) = true := by simp
        clear ha
        go_wp2_with fail
        refine (LSame ep sq nx bi sq fi la false A3 D m c3 b3 ep sq nx bi sq fi la false (some ⟨g, 0, none⟩) D m m g rfl hDl rfl hDl true (Fr.same_self _) _ hs3 hs).mono ?_
        rintro e w5 ⟨rfl, h1⟩
        replace q := box_ext q h1
        replace q3 := box_ext q3 h1
        replace hb3 := hb3.trans (h1.mono hb3.size)
        clear h1 k0 k1 k2 k3 k4 k5 k6 k7
        obtain ⟨k0, k1, k2, k3, k4, k5, k6, k7⟩ := box8_all q
        obtain ⟨j0, j1, j2, j3, j4, j5, j6, j7⟩ := box8_all q3
        go_wp2_with fail
        go_ret
        exact ⟨rfl, hb3⟩
      · have hgt : 64 < (m : Int) := by omega
        refine (LBytes_no ep sq nx bi sq fi la false (some ⟨g, 0, none⟩) D m m rfl hDl _ (by simp [Fr.right]; omega)).mono ?_
        rintro e w3 ⟨rfl, h1⟩
        replace hb3 := hb3.trans (h1.mono hb3.size)
        go_wp2_with fail
        go_ret
        exact ⟨rfl, hb3⟩
end Go.Proofs.Ytcbhochfdnbaaaa
