/- The laws' bytes (so many, counted on from one), awake. Condition: the numbers fit. -/
import Derived.Test.YtgkflgnlodhelaaClipS
import Derived.Test.YtgkflgnlodhelaaRowSet
namespace Go.Proofs.Ytgkflgnlodhelaa
open Go.RowKit

/-- So many bytes, counted on from b. -/
def bytesN (n b : Nat) : List UInt8 := (List.range n).map fun i => UInt8.ofNat (b + i)
theorem bytesN_length (n b : Nat) : (bytesN n b).length = n := by simp [bytesN]
theorem byte_info1 : (Try.prog.info? 5).map (fun i => (i.zero, i.size, i.bytes)) = some (some (.int .u8 0), 1, 1) := by kernel_rfl
theorem made_u8 (n : Nat) : (madeCells (Value.int .u8 0).cells (n * 1)).toList = bv (List.replicate n 0) := by
  apply List.ext_getElem (by simp [madeCells])
  intro j h1 h2
  simp [madeCells, Value.cells, bv]
  rw [Nat.mod_one]
  rfl
theorem bytes_next (n b k : Nat) (hk : k < n) : ((bytesN n b).take k ++ List.replicate (n - k) 0).set k (UInt8.ofNat (b + k)) = (bytesN n b).take (k + 1) ++ List.replicate (n - (k + 1)) 0 := by
  obtain ⟨r, hr⟩ : ∃ r, n - k = r + 1 := ⟨n - k - 1, by omega⟩
  have hl : ((bytesN n b).take k).length = k := by rw [List.length_take, bytesN_length]; omega
  rw [List.set_append_right _ _ (by omega), hl, Nat.sub_self, hr, List.replicate_succ, List.set_cons_zero, show n - (k + 1) = r by omega, List.take_succ_eq_append_getElem (by rw [bytesN_length]; exact hk)]
  simp [bytesN]

set_option maxHeartbeats 1000000 in
set_option maxRecDepth 20000 in
theorem bytes_calls (m b : Nat) (w : World) (hm : m ≤ 65535) :
    Calls Try.prog 10 #[.int .u16 (m : Int), .int .u8 (b : Int)] w fun e w' => ∃ v, e = .returned v ∧ Row w' w.heap.size v (bytesN (m % 1100) b) ∧ Below w.heap.size w w' := by
  obtain ⟨n, hn⟩ : ∃ n, n = m % 1100 := ⟨_, rfl⟩
  have e1 : (m : Int).tmod 1100 = (n : Int) := by rw [hn, Int.tmod_eq_emod_of_nonneg (by omega)]; omega
  have e2 : IntKind.u16.wrap (n : Int) = (n : Int) := IntWalk.u16_in _ (by omega)
  have hn2 : n < 1100 := by omega
  rw [← hn]
  clear hn hm
  obtain ⟨i0, hi0, hz0, hz1, hz2⟩ := info_parts byte_info1
  go_enter Try.func10, Try.ntmps10
  go_wp2_with (refine at_mkS 25 8 8 ?_; go_loud (refine wpList_make_full _ rfl (.tmp 8) (.tmp 8) 25 rfl w.heap.size 5 i0 _ 1 Try.underlying25 hi0 hz0 hz1 _ _ (n : Int) (n : Int) n rfl rfl rfl rfl (by rw [hz2]; omega) (by simp only [maxLen]; omega) (Nat.le_refl _) ?_); intro w2 hown hgr)
  rw [made_u8] at hown
  have hb2 : Below w.heap.size w w2 := (Mod.of_grown hgr).below (Nat.le_refl _) (fun i _ h => by cases h)
  obtain ⟨g, hg⟩ : ∃ g, g = w.heap.size := ⟨_, rfl⟩
  have hown0 : Row w2 w.heap.size (.slice (some ⟨w.heap.size, 0, none⟩) n n) ((bytesN n b).take 0 ++ List.replicate (n - 0) 0) := by unfold Row; simpa using hown
  rw [← hg] at hown0 ⊢
  have HG := Lib.hid hg
  clear hown hgr hg hi0 hz0 hz1 hz2
  go_loopw [12] (fun i wr => ∃ k : Nat, k ≤ n ∧ i = .int .i64 k ∧ Hid (Row wr g (.slice (some ⟨g, 0, none⟩) n n) ((bytesN n b).take k ++ List.replicate (n - k) 0)) ∧ Below w.heap.size w wr) (fun i _ => n - (intOf i).toNat)
  case atStart => exact ⟨0, Nat.zero_le _, rfl, Lib.hid hown0, hb2⟩
  case round =>
    obtain ⟨k, hk, rfl, hown, hbw⟩ := hrel
    by_cases hlt : k < n
    · have hll : ((bytesN n b).take k ++ List.replicate (n - k) (0 : UInt8)).length = n := by simp [bytesN_length]; omega
      obtain ⟨g', cap, hv, -, hgl, hcell, hfr, hset⟩ := Row.set_ hown.out (k := k) (by rw [hll]; exact hlt)
      injection hv with hv hz1 hz2
      injection hv with hv
      injection hv with hv hz3 hz4
      subst hv
      clear hz1 hz2 hz3 hz4
      have hnext := bytes_next n b k hlt
      have HSET := Lib.hid (fun w' (h : w'.heap[g]? = (wr.setCell ⟨g, k, none⟩ (.int .u8 (((UInt8.ofNat (b + k)).toNat : Nat) : Int))).heap[g]?) => hset (UInt8.ofNat (b + k)) _ w' rfl h)
      have hx := u8_ofNat (b + k)
      replace hcell : ∃ u, wr.cell? ⟨g, k, none⟩ = some u := ⟨_, hcell⟩
      obtain ⟨u0, hcell⟩ := hcell
      clear hset hll
      go_wp2_with fail
      rw [show ((b + k : Nat) : Int) % 256 = ((b : Int) + (k : Int)) % 256 by omega] at hx
      refine ⟨⟨k + 1, by omega, by go_num, Lib.hid ?_, hbw.trans ((Mod.setCell wr ⟨g, k, none⟩ _).below hbw.size (fun i hi h => by have := HG.out; have h2 : i = g := h; omega))⟩, by simp [intOf]; omega⟩
      have := HSET.out (wr.setCell ⟨g, k, none⟩ (.int .u8 (((b : Int) + (k : Int)) % 256))) (by rw [← hx])
      rw [hnext] at this
      exact this
    · go_wp2_with fail
      go_ret
      have hkn : k = n := by omega
      subst hkn
      have h := hown.out
      rw [List.take_of_length_le (by rw [bytesN_length]; exact Nat.le_refl _), Nat.sub_self, List.replicate_zero, List.append_nil] at h
      exact ⟨_, rfl, by rw [← HG.out]; exact h, hbw⟩

theorem awake_pcs : splitP (List.replicate 100 0) = [⟨true, false, List.replicate 64 0⟩, ⟨false, true, List.replicate 36 0⟩] := by kernel_rfl
set_option maxHeartbeats 1000000 in
set_option maxRecDepth 20000 in
theorem Awake_calls (w : World) :
    Calls Try.prog 9 #[] w fun e w' => e = .returned (.bool true) ∧ Below w.heap.size w w' := by
  have hmk : ∀ w : World, (Instr.makeSlice 25 (.int .i64 100) (.int .i64 100)).run Try.prog w = .ok (.slice (some ⟨w.heap.size, 0, none⟩) 100 100) (w.alloc (.cells (bv (List.replicate 100 0)).toArray 5)) := fun _ => by kernel_rfl
  have hs : Bs (w.alloc (.cells (bv (List.replicate 100 0)).toArray 5)) w.heap.size (some ⟨w.heap.size, 0, none⟩) (List.replicate 100 0) := Sl.cells_new w _ _
  have hb := below_alloc1 w (.cells (bv (List.replicate 100 0)).toArray 5)
  have hS := Split_calls (some ⟨w.heap.size, 0, none⟩) (List.replicate 100 0) 100 100 w.heap.size _ hs (by simp) (by omega) (by omega) (by simp [maxLen])
  rw [awake_pcs] at hS
  obtain ⟨W, hW⟩ : ∃ W, W = w.alloc (.cells (bv (List.replicate 100 0)).toArray 5) := ⟨_, rfl⟩
  simp only [← hW] at hS hb
  replace hmk := hmk w
  rw [← hW] at hmk
  clear hs hW
  go_enter Try.func9, Try.ntmps9
  go_wp2_with fail
  refine hS.mono ?_
  rintro e w1 ⟨v, xs, rfl, hxp, hrow, -, h1⟩
  obtain ⟨A1, c1, b1, rfl, -, -, -, -, hs1, -⟩ := ownsP_sl hrow
  have hl : xs.length = 2 := by have := congrArg List.length hxp; simpa using this
  obtain ⟨x0, x1, rfl⟩ : ∃ x0 x1, xs = [x0, x1] := by
    match xs, hl with
    | [a, b], _ => exact ⟨a, b, rfl⟩
  simp only [List.map_cons, List.map_nil, List.cons.injEq, and_true] at hxp
  obtain ⟨p0, p1⟩ := hxp
  obtain ⟨off, rfl, a0, a1, a2⟩ := sl_pv hs1 (k := 0) (by simp)
  obtain ⟨off', ho, b0, b1, b2⟩ := sl_pv hs1 (k := 1) (by simp)
  injection ho with ho
  injection ho with hz1 ho hz2
  subst ho
  clear hz1 hz2
  simp only [List.getElem_cons_zero, List.getElem_cons_succ, p0, p1, List.length_replicate, Nat.zero_mul, Nat.add_zero, Nat.one_mul, List.length_cons, List.length_nil, Nat.zero_add, Nat.reduceAdd] at a0 a1 a2 b0 b1 b2 ⊢
  clear hs1 hrow hS
  go_wp2_with fail
  go_ret
  exact ⟨rfl, hb.trans (h1.mono hb.size)⟩
end Go.Proofs.Ytgkflgnlodhelaa
