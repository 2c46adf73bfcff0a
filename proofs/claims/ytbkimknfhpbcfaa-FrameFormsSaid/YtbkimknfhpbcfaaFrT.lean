/- The reference's Bytes of a frame that may be. Conditions: the numbers fit. -/
import Derived.Test.YtbkimknfhpbcfaaFrR
import Derived.Test.YtbkimknfhpbcfaaRefJoin
import Derived.Test.YtbkimknfhpbcfaaRefLow
import Derived.Test.YtbkimknfhpbcfaaRefSealed
import Derived.Deep.RegionHeld3
namespace Go.Proofs.Ytbkimknfhpbcfaa
open Go.RowKit
set_option linter.unusedVariables false

theorem raw_parts (f : Fr) (hr : f.right = true) : [[86], low f.epoch 2, low f.seq 2, low f.next 2, low f.bits 4, [UInt8.ofNat f.marks, UInt8.ofNat f.data.length], f.data].flatten = f.raw := by
  have := Fr.right_len hr
  unfold Fr.raw
  rw [num_small (by omega), low_one, low_one]
  simp
set_option maxHeartbeats 16000000 in
set_option maxRecDepth 20000 in
theorem RBytes_calls (f : Fr) (A : Option Addr) (c b : Nat) (w : World) (ho : f.Ok) (hr : f.right = true) (hs : Bs w b A f.data) :
    Calls Try.prog 17 #[.agg (f.cells A c)] w fun e w' => ∃ v, e = .returned v ∧ Row w' w.heap.size v (sealedL f.raw) ∧ Below w.heap.size w w' := by
  have q : (w.alloc (.cells (f.cells A c) 35)).heap[w.heap.size]? = some (.cells (f.cells A c) 35 (0, 0)) := heap_alloc_new w _
  have hb := below_alloc1 w (.cells (f.cells A c) 35)
  replace hs := Sl.ext hs hb
  have hF := fun W => Flags_calls f A c W
  have hm := f.marks_lt
  have hdl := Fr.right_len hr
  have hParts := Lib.hid (raw_parts f hr)
  have u1 : IntKind.u64.wrap (f.epoch : Int) = (f.epoch : Int) := IntWalk.u64_in _ (by have := ho.e; omega)
  have u2 : IntKind.u64.wrap (f.seq : Int) = (f.seq : Int) := IntWalk.u64_in _ (by have := ho.s; omega)
  have u3 : IntKind.u64.wrap (f.next : Int) = (f.next : Int) := IntWalk.u64_in _ (by have := ho.n; omega)
  have u4 : IntKind.u64.wrap (f.bits : Int) = (f.bits : Int) := IntWalk.u64_in _ (by have := ho.b; omega)
  have u5 : IntKind.u8.wrap (f.data.length : Int) = (f.data.length : Int) := IntWalk.u8_in _ (by omega)
  have l1 := ho.e
  have l2 := ho.s
  have l3 := ho.n
  have l4 := ho.b
  have HRL : Hid (f.raw.length ≤ 1000) := Lib.hid (by have := raw_length f hr; rw [sealedL_length] at this; omega)
  clear hr
  go_enter Try.func17, Try.ntmps17
  go_wp2_with fail
  obtain ⟨w0, hw0⟩ : ∃ w0, w0 = w.alloc (.cells (f.cells A c) 35) := ⟨_, rfl⟩
  rw [← hw0] at q hb hs ⊢
  clear hw0
  refine wp_region_held_drew (S := fun w0 => w0.heap[w.heap.size]? = some (.cells (f.cells A c) 35 (0, 0))) (by kernel_rfl) ?_ (fun hHeld => ?_)
  · exact q
  obtain ⟨wd2, hwd2⟩ : ∃ wd2, wd2 = World.drew w0 := ⟨_, rfl⟩
  have h9 : Below w0.heap.size w0 wd2 := by rw [hwd2]; exact below_drew (Below.refl _ _)
  rw [← hwd2] at hHeld ⊢
  replace q := box_ext q h9
  replace hs := Sl.ext hs h9
  replace hb := hb.trans (h9.mono hb.size)
  clear h9
  clear hwd2
  refine wpAnyH_take (i := 1) (v := ?vt13) (by simp only [List.getElem?_toArray, List.getElem?_cons_succ, List.getElem?_cons_zero]; rfl) (by kernel_rfl) (by kernel_rfl) (by kernel_rfl) (by exact fun _ _ _ h => h) (Or.inl ⟨by kernel_rfl, ?yt13⟩) hHeld ?_
  case yt13 => (intro ww hSw; (try dsimp only at hSw); clear hSw; go_simp; try (with_reducible rfl))
  try simp only [Act.put, List.setIfInBounds_toArray, List.set_cons_zero, List.set_cons_succ]
  refine wpAnyH_take (i := 2) (v := ?vt14) (by simp only [List.getElem?_toArray, List.getElem?_cons_succ, List.getElem?_cons_zero]; rfl) (by kernel_rfl) (by kernel_rfl) (by kernel_rfl) (by exact fun _ _ _ h => h) (Or.inl ⟨by kernel_rfl, ?yt14⟩) hHeld ?_
  case yt14 => (intro ww hSw; (try dsimp only at hSw); obtain ⟨k0, k1, k2, k3, k4, k5, k6, k7⟩ := boxg_all hSw; clear hSw; go_simp; try (with_reducible rfl))
  try simp only [Act.put, List.setIfInBounds_toArray, List.set_cons_zero, List.set_cons_succ]
  refine wpAnyH_take (i := 3) (v := ?vt15) (by simp only [List.getElem?_toArray, List.getElem?_cons_succ, List.getElem?_cons_zero]; rfl) (by kernel_rfl) (by kernel_rfl) (by kernel_rfl) (by exact fun _ _ _ h => h) (Or.inl ⟨by kernel_rfl, ?yt15⟩) hHeld ?_
  case yt15 => (intro ww hSw; (try dsimp only at hSw); clear hSw; go_simp; try (with_reducible rfl))
  try simp only [Act.put, List.setIfInBounds_toArray, List.set_cons_zero, List.set_cons_succ]
  refine wpAnyH_take (i := 5) (v := ?vt16) (by simp only [List.getElem?_toArray, List.getElem?_cons_succ, List.getElem?_cons_zero]; rfl) (by kernel_rfl) (by kernel_rfl) (by kernel_rfl) (by exact fun _ _ _ h => h) (Or.inl ⟨by kernel_rfl, ?yt16⟩) hHeld ?_
  case yt16 => (intro ww hSw; (try dsimp only at hSw); clear hSw; go_simp; try (with_reducible rfl))
  try simp only [Act.put, List.setIfInBounds_toArray, List.set_cons_zero, List.set_cons_succ]
  refine wpAnyH_take (i := 6) (v := ?vt17) (by simp only [List.getElem?_toArray, List.getElem?_cons_succ, List.getElem?_cons_zero]; rfl) (by kernel_rfl) (by kernel_rfl) (by kernel_rfl) (by exact fun _ _ _ h => h) (Or.inl ⟨by kernel_rfl, ?yt17⟩) hHeld ?_
  case yt17 => (intro ww hSw; (try dsimp only at hSw); obtain ⟨k0, k1, k2, k3, k4, k5, k6, k7⟩ := boxg_all hSw; clear hSw; go_simp; try (with_reducible rfl))
  try simp only [Act.put, List.setIfInBounds_toArray, List.set_cons_zero, List.set_cons_succ]
  refine wpAnyH_take (i := 7) (v := ?vt18) (by simp only [List.getElem?_toArray, List.getElem?_cons_succ, List.getElem?_cons_zero]; rfl) (by kernel_rfl) (by kernel_rfl) (by kernel_rfl) (by exact fun _ _ _ h => h) (Or.inl ⟨by kernel_rfl, ?yt18⟩) hHeld ?_
  case yt18 => (intro ww hSw; (try dsimp only at hSw); clear hSw; go_simp; try (with_reducible rfl))
  try simp only [Act.put, List.setIfInBounds_toArray, List.set_cons_zero, List.set_cons_succ]
  refine wpAnyH_take (i := 9) (v := ?vt19) (by simp only [List.getElem?_toArray, List.getElem?_cons_succ, List.getElem?_cons_zero]; rfl) (by kernel_rfl) (by kernel_rfl) (by kernel_rfl) (by exact fun _ _ _ h => h) (Or.inl ⟨by kernel_rfl, ?yt19⟩) hHeld ?_
  case yt19 => (intro ww hSw; (try dsimp only at hSw); clear hSw; go_simp; try (with_reducible rfl))
  try simp only [Act.put, List.setIfInBounds_toArray, List.set_cons_zero, List.set_cons_succ]
  refine wpAnyH_take (i := 10) (v := ?vt110) (by simp only [List.getElem?_toArray, List.getElem?_cons_succ, List.getElem?_cons_zero]; rfl) (by kernel_rfl) (by kernel_rfl) (by kernel_rfl) (by exact fun _ _ _ h => h) (Or.inl ⟨by kernel_rfl, ?yt110⟩) hHeld ?_
  case yt110 => (intro ww hSw; (try dsimp only at hSw); obtain ⟨k0, k1, k2, k3, k4, k5, k6, k7⟩ := boxg_all hSw; clear hSw; go_simp; try (with_reducible rfl))
  try simp only [Act.put, List.setIfInBounds_toArray, List.set_cons_zero, List.set_cons_succ]
  refine wpAnyH_take (i := 11) (v := ?vt111) (by simp only [List.getElem?_toArray, List.getElem?_cons_succ, List.getElem?_cons_zero]; rfl) (by kernel_rfl) (by kernel_rfl) (by kernel_rfl) (by exact fun _ _ _ h => h) (Or.inl ⟨by kernel_rfl, ?yt111⟩) hHeld ?_
  case yt111 => (intro ww hSw; (try dsimp only at hSw); clear hSw; go_simp; try (with_reducible rfl))
  try simp only [Act.put, List.setIfInBounds_toArray, List.set_cons_zero, List.set_cons_succ]
  refine wpAnyH_take (i := 13) (v := ?vt112) (by simp only [List.getElem?_toArray, List.getElem?_cons_succ, List.getElem?_cons_zero]; rfl) (by kernel_rfl) (by kernel_rfl) (by kernel_rfl) (by exact fun _ _ _ h => h) (Or.inl ⟨by kernel_rfl, ?yt112⟩) hHeld ?_
  case yt112 => (intro ww hSw; (try dsimp only at hSw); clear hSw; go_simp; try (with_reducible rfl))
  try simp only [Act.put, List.setIfInBounds_toArray, List.set_cons_zero, List.set_cons_succ]
  refine wpAnyH_take (i := 14) (v := ?vt113) (by simp only [List.getElem?_toArray, List.getElem?_cons_succ, List.getElem?_cons_zero]; rfl) (by kernel_rfl) (by kernel_rfl) (by kernel_rfl) (by exact fun _ _ _ h => h) (Or.inl ⟨by kernel_rfl, ?yt113⟩) hHeld ?_
  case yt113 => (intro ww hSw; (try dsimp only at hSw); obtain ⟨k0, k1, k2, k3, k4, k5, k6, k7⟩ := boxg_all hSw; clear hSw; go_simp; try (with_reducible rfl))
  try simp only [Act.put, List.setIfInBounds_toArray, List.set_cons_zero, List.set_cons_succ]
  refine wpAnyH_take (i := 15) (v := ?vt114) (by simp only [List.getElem?_toArray, List.getElem?_cons_succ, List.getElem?_cons_zero]; rfl) (by kernel_rfl) (by kernel_rfl) (by kernel_rfl) (by exact fun _ _ _ h => h) (Or.inl ⟨by kernel_rfl, ?yt114⟩) hHeld ?_
  case yt114 => (intro ww hSw; (try dsimp only at hSw); clear hSw; go_simp; try (with_reducible rfl))
  try simp only [Act.put, List.setIfInBounds_toArray, List.set_cons_zero, List.set_cons_succ]
  refine wpAnyH_take (i := 17) (v := ?vt115) (by simp only [List.getElem?_toArray, List.getElem?_cons_succ, List.getElem?_cons_zero]; rfl) (by kernel_rfl) (by kernel_rfl) (by kernel_rfl) (by exact fun _ _ _ h => h) (Or.inl ⟨by kernel_rfl, ?yt115⟩) hHeld ?_
  case yt115 => (intro ww hSw; (try dsimp only at hSw); obtain ⟨k0, k1, k2, k3, k4, k5, k6, k7⟩ := boxg_all hSw; clear hSw; go_simp; try (with_reducible rfl))
  try simp only [Act.put, List.setIfInBounds_toArray, List.set_cons_zero, List.set_cons_succ]
  refine wpAnyH_take (i := 19) (v := ?vt116) (by simp only [List.getElem?_toArray, List.getElem?_cons_succ, List.getElem?_cons_zero]; rfl) (by kernel_rfl) (by kernel_rfl) (by kernel_rfl) (by exact fun _ _ _ h => h) (Or.inl ⟨by kernel_rfl, ?yt116⟩) hHeld ?_
  case yt116 => (intro ww hSw; (try dsimp only at hSw); clear hSw; go_simp; try (with_reducible rfl))
  try simp only [Act.put, List.setIfInBounds_toArray, List.set_cons_zero, List.set_cons_succ]
  refine wpAnyH_take (i := 20) (v := ?vt117) (by simp only [List.getElem?_toArray, List.getElem?_cons_succ, List.getElem?_cons_zero]; rfl) (by kernel_rfl) (by kernel_rfl) (by kernel_rfl) (by exact fun _ _ _ h => h) (Or.inl ⟨by kernel_rfl, ?yt117⟩) hHeld ?_
  case yt117 => (intro ww hSw; (try dsimp only at hSw); obtain ⟨k0, k1, k2, k3, k4, k5, k6, k7⟩ := boxg_all hSw; clear hSw; go_simp; try (with_reducible rfl))
  try simp only [Act.put, List.setIfInBounds_toArray, List.set_cons_zero, List.set_cons_succ]
  refine wpAnyH_take (i := 21) (v := ?vt118) (by simp only [List.getElem?_toArray, List.getElem?_cons_succ, List.getElem?_cons_zero]; rfl) (by kernel_rfl) (by kernel_rfl) (by kernel_rfl) (by exact fun _ _ _ h => h) (Or.inl ⟨by kernel_rfl, ?yt118⟩) hHeld ?_
  case yt118 => (intro ww hSw; (try dsimp only at hSw); clear hSw; go_simp; try (with_reducible rfl))
  try simp only [Act.put, List.setIfInBounds_toArray, List.set_cons_zero, List.set_cons_succ]
  refine wpAnyH_take (i := 22) (v := ?vt119) (by simp only [List.getElem?_toArray, List.getElem?_cons_succ, List.getElem?_cons_zero]; rfl) (by kernel_rfl) (by kernel_rfl) (by kernel_rfl) (by exact fun _ _ _ h => h) (Or.inl ⟨by kernel_rfl, ?yt119⟩) hHeld ?_
  case yt119 => (intro ww hSw; (try dsimp only at hSw); clear hSw; go_simp; try (with_reducible rfl))
  try simp only [Act.put, List.setIfInBounds_toArray, List.set_cons_zero, List.set_cons_succ]
  refine wpAnyH_take (i := 24) (v := ?vt120) (by simp only [List.getElem?_toArray, List.getElem?_cons_succ, List.getElem?_cons_zero]; rfl) (by kernel_rfl) (by kernel_rfl) (by kernel_rfl) (by exact fun _ _ _ h => h) (Or.inl ⟨by kernel_rfl, ?yt120⟩) hHeld ?_
  case yt120 => (intro ww hSw; (try dsimp only at hSw); clear hSw; go_simp; try (with_reducible rfl))
  try simp only [Act.put, List.setIfInBounds_toArray, List.set_cons_zero, List.set_cons_succ]
  refine wpAnyH_take (i := 25) (v := ?vt121) (by simp only [List.getElem?_toArray, List.getElem?_cons_succ, List.getElem?_cons_zero]; rfl) (by kernel_rfl) (by kernel_rfl) (by kernel_rfl) (by exact fun _ _ _ h => h) (Or.inl ⟨by kernel_rfl, ?yt121⟩) hHeld ?_
  case yt121 => (intro ww hSw; (try dsimp only at hSw); obtain ⟨k0, k1, k2, k3, k4, k5, k6, k7⟩ := boxg_all hSw; clear hSw; go_simp; try (with_reducible rfl))
  try simp only [Act.put, List.setIfInBounds_toArray, List.set_cons_zero, List.set_cons_succ]
  refine wpAnyH_ready (rs := [0, 4]) (by kernel_rfl) (by simp) ?_
  refine AllReadyH.cons (by simp only [List.getElem?_toArray, List.getElem?_cons_zero]; rfl) (fun KK hKK => ?_) (AllReadyH.cons (by simp only [List.getElem?_toArray, List.getElem?_cons_succ, List.getElem?_cons_zero]; rfl) (fun KK hKK => ?_) AllReadyH.nil)
  · skip
    rw [if_pos (by kernel_rfl)]
    go_simp
    obtain ⟨wa22, hwa22⟩ : ∃ wa22, wa22 = wd2.alloc (.cells #[.int .u8 86] 5) := ⟨_, rfl⟩
    have h9 : Below wd2.heap.size wd2 wa22 := by rw [hwa22]; exact below_alloc1 _ _
    have qa : Sl wa22 wd2.heap.size (some ⟨wd2.heap.size, 0, none⟩) [.int .u8 86] := by rw [hwa22]; exact Sl.cells_new _ _ _
    rw [← hwa22]
    clear hwa22
    replace q := box_ext q h9
    replace hs := Sl.ext hs h9
    replace hb := hb.trans (h9.mono hb.size)
    clear h9
    refine hKK.out _ _ ?_ (fun hHeld => ?_)
    · exact q
    clear hKK KK
    try simp only [Act.put, List.setIfInBounds_toArray, List.set_cons_zero, List.set_cons_succ]
    refine wpAnyH_ready (rs := [4]) (by kernel_rfl) (by simp) ?_
    refine AllReadyH.cons (by simp only [List.getElem?_toArray, List.getElem?_cons_succ, List.getElem?_cons_zero]; rfl) (fun KK hKK => ?_) AllReadyH.nil
    rw [if_pos (by kernel_rfl)]
    go_simp
    (with_reducible refine (Low_calls f.epoch 2 _ (by omega) (by omega) (by omega)).mono ?_)
    rintro e wc24 ⟨v4, rfl, hrow, g23⟩
    replace q := box_ext q g23
    replace hs := Sl.ext hs g23
    replace qa := Sl.ext qa g23
    replace hb := hb.trans (g23.mono hb.size)
    clear g23
    rw [show (2 : Int).toNat = 2 from rfl] at hrow
    obtain ⟨A4, c4, b4, rfl, -, -, -, -, hs4, -⟩ := hrow.sl
    rw [low_length]
    clear hrow
    go_wp2_with fail
    refine hKK.out _ _ ?_ (fun hHeld => ?_)
    · exact q
    clear hKK KK
    try simp only [Act.put, List.setIfInBounds_toArray, List.set_cons_zero, List.set_cons_succ]
    refine wpAnyH_ready (rs := [8]) (by kernel_rfl) (by simp) ?_
    refine AllReadyH.cons (by simp only [List.getElem?_toArray, List.getElem?_cons_succ, List.getElem?_cons_zero]; rfl) (fun KK hKK => ?_) AllReadyH.nil
    rw [if_pos (by kernel_rfl)]
    go_simp
    (with_reducible refine (Low_calls f.seq 2 _ (by omega) (by omega) (by omega)).mono ?_)
    rintro e wc26 ⟨v8, rfl, hrow, g25⟩
    replace q := box_ext q g25
    replace hs := Sl.ext hs g25
    replace qa := Sl.ext qa g25
    replace hs4 := Sl.ext hs4 g25
    replace hb := hb.trans (g25.mono hb.size)
    clear g25
    rw [show (2 : Int).toNat = 2 from rfl] at hrow
    obtain ⟨A8, c8, b8, rfl, -, -, -, -, hs8, -⟩ := hrow.sl
    rw [low_length]
    clear hrow
    go_wp2_with fail
    refine hKK.out _ _ ?_ (fun hHeld => ?_)
    · exact q
    clear hKK KK
    try simp only [Act.put, List.setIfInBounds_toArray, List.set_cons_zero, List.set_cons_succ]
    refine wpAnyH_ready (rs := [12]) (by kernel_rfl) (by simp) ?_
    refine AllReadyH.cons (by simp only [List.getElem?_toArray, List.getElem?_cons_succ, List.getElem?_cons_zero]; rfl) (fun KK hKK => ?_) AllReadyH.nil
    rw [if_pos (by kernel_rfl)]
    go_simp
    (with_reducible refine (Low_calls f.next 2 _ (by omega) (by omega) (by omega)).mono ?_)
    rintro e wc28 ⟨v12, rfl, hrow, g27⟩
    replace q := box_ext q g27
    replace hs := Sl.ext hs g27
    replace qa := Sl.ext qa g27
    replace hs4 := Sl.ext hs4 g27
    replace hs8 := Sl.ext hs8 g27
    replace hb := hb.trans (g27.mono hb.size)
    clear g27
    rw [show (2 : Int).toNat = 2 from rfl] at hrow
    obtain ⟨A12, c12, b12, rfl, -, -, -, -, hs12, -⟩ := hrow.sl
    rw [low_length]
    clear hrow
    go_wp2_with fail
    refine hKK.out _ _ ?_ (fun hHeld => ?_)
    · exact q
    clear hKK KK
    try simp only [Act.put, List.setIfInBounds_toArray, List.set_cons_zero, List.set_cons_succ]
    refine wpAnyH_ready (rs := [16]) (by kernel_rfl) (by simp) ?_
    refine AllReadyH.cons (by simp only [List.getElem?_toArray, List.getElem?_cons_succ, List.getElem?_cons_zero]; rfl) (fun KK hKK => ?_) AllReadyH.nil
    rw [if_pos (by kernel_rfl)]
    go_simp
    (with_reducible refine (Low_calls f.bits 4 _ (by omega) (by omega) (by omega)).mono ?_)
    rintro e wc30 ⟨v16, rfl, hrow, g29⟩
    replace q := box_ext q g29
    replace hs := Sl.ext hs g29
    replace qa := Sl.ext qa g29
    replace hs4 := Sl.ext hs4 g29
    replace hs8 := Sl.ext hs8 g29
    replace hs12 := Sl.ext hs12 g29
    replace hb := hb.trans (g29.mono hb.size)
    clear g29
    rw [show (4 : Int).toNat = 4 from rfl] at hrow
    obtain ⟨A16, c16, b16, rfl, -, -, -, -, hs16, -⟩ := hrow.sl
    rw [low_length]
    clear hrow
    go_wp2_with fail
    refine hKK.out _ _ ?_ (fun hHeld => ?_)
    · exact q
    clear hKK KK
    try simp only [Act.put, List.setIfInBounds_toArray, List.set_cons_zero, List.set_cons_succ]
    refine wpAnyH_ready (rs := [18]) (by kernel_rfl) (by simp) ?_
    refine AllReadyH.cons (by simp only [List.getElem?_toArray, List.getElem?_cons_succ, List.getElem?_cons_zero]; rfl) (fun KK hKK => ?_) AllReadyH.nil
    rw [if_pos (by kernel_rfl)]
    go_simp
    (with_reducible refine (hF _).mono ?_)
    rintro e wc32 ⟨rfl, g31⟩
    replace q := box_ext q g31
    replace hs := Sl.ext hs g31
    replace qa := Sl.ext qa g31
    replace hs4 := Sl.ext hs4 g31
    replace hs8 := Sl.ext hs8 g31
    replace hs12 := Sl.ext hs12 g31
    replace hs16 := Sl.ext hs16 g31
    replace hb := hb.trans (g31.mono hb.size)
    clear g31
    go_wp2_with fail
    refine hKK.out _ _ ?_ (fun hHeld => ?_)
    · exact q
    clear hKK KK
    try simp only [Act.put, List.setIfInBounds_toArray, List.set_cons_zero, List.set_cons_succ]
    refine wpAnyH_ready (rs := [23]) (by kernel_rfl) (by simp) ?_
    refine AllReadyH.cons (by simp only [List.getElem?_toArray, List.getElem?_cons_succ, List.getElem?_cons_zero]; rfl) (fun KK hKK => ?_) AllReadyH.nil
    rw [if_pos (by kernel_rfl)]
    go_simp
    obtain ⟨wa33, hwa33⟩ : ∃ wa33, wa33 = wc32.alloc (.cells #[.int .u8 (f.marks : Int), .int .u8 (f.data.length : Int)] 5) := ⟨_, rfl⟩
    have h9 : Below wc32.heap.size wc32 wa33 := by rw [hwa33]; exact below_alloc1 _ _
    have qm : Sl wa33 wc32.heap.size (some ⟨wc32.heap.size, 0, none⟩) [.int .u8 (f.marks : Int), .int .u8 (f.data.length : Int)] := by rw [hwa33]; exact Sl.cells_new _ _ _
    rw [← hwa33]
    clear hwa33
    replace q := box_ext q h9
    replace hs := Sl.ext hs h9
    replace qa := Sl.ext qa h9
    replace hs4 := Sl.ext hs4 h9
    replace hs8 := Sl.ext hs8 h9
    replace hs12 := Sl.ext hs12 h9
    replace hs16 := Sl.ext hs16 h9
    replace hb := hb.trans (h9.mono hb.size)
    clear h9
    refine hKK.out _ _ ?_ (fun hHeld => ?_)
    · exact q
    clear hKK KK
    try simp only [Act.put, List.setIfInBounds_toArray, List.set_cons_zero, List.set_cons_succ]
    refine wpAnyH_ready (rs := [26]) (by kernel_rfl) (by simp) ?_
    refine AllReadyH.cons (by simp only [List.getElem?_toArray, List.getElem?_cons_succ, List.getElem?_cons_zero]; rfl) (fun KK hKK => ?_) AllReadyH.nil
    rw [if_pos (by kernel_rfl)]
    go_simp
    obtain ⟨wa34, hwa34⟩ : ∃ wa34, wa34 = wa33.alloc (.cells #[.slice (some ⟨wd2.heap.size, 0, none⟩) 1 1, .slice A4 2 c4, .slice A8 2 c8, .slice A12 2 c12, .slice A16 4 c16, .slice (some ⟨wc32.heap.size, 0, none⟩) 2 2, .slice A f.data.length c] 27) := ⟨_, rfl⟩
    have h9 : Below wa33.heap.size wa33 wa34 := by rw [hwa34]; exact below_alloc1 _ _
    have qz : Sl wa34 wa33.heap.size (some ⟨wa33.heap.size, 0, none⟩) [.slice (some ⟨wd2.heap.size, 0, none⟩) 1 1, .slice A4 2 c4, .slice A8 2 c8, .slice A12 2 c12, .slice A16 4 c16, .slice (some ⟨wc32.heap.size, 0, none⟩) 2 2, .slice A f.data.length c] := by rw [hwa34]; exact Sl.cells_new _ _ _
    rw [← hwa34]
    clear hwa34
    replace q := box_ext q h9
    replace hs := Sl.ext hs h9
    replace qa := Sl.ext qa h9
    replace hs4 := Sl.ext hs4 h9
    replace hs8 := Sl.ext hs8 h9
    replace hs12 := Sl.ext hs12 h9
    replace hs16 := Sl.ext hs16 h9
    replace qm := Sl.ext qm h9
    replace hb := hb.trans (h9.mono hb.size)
    clear h9
    refine hKK.out _ _ ?_ (fun hHeld => ?_)
    · exact q
    clear hKK KK
    try simp only [Act.put, List.setIfInBounds_toArray, List.set_cons_zero, List.set_cons_succ]
    refine wpAnyH_ready (rs := [27]) (by kernel_rfl) (by simp) ?_
    refine AllReadyH.cons (by simp only [List.getElem?_toArray, List.getElem?_cons_succ, List.getElem?_cons_zero]; rfl) (fun KK hKK => ?_) AllReadyH.nil
    rw [if_pos (by kernel_rfl)]
    have qa' : Bs wa34 (wd2.heap.size) (some ⟨wd2.heap.size, 0, none⟩) [86] := qa
    have qm' : Bs wa34 (wc32.heap.size) (some ⟨wc32.heap.size, 0, none⟩) [UInt8.ofNat f.marks, UInt8.ofNat f.data.length] := by have e : bv [UInt8.ofNat f.marks, UInt8.ofNat f.data.length] = [.int .u8 (f.marks : Int), .int .u8 (f.data.length : Int)] := (by simp only [bv, List.map_cons, List.map_nil, u8_ofNat]; rw [Int.emod_eq_of_lt (by omega) (by omega), Int.emod_eq_of_lt (by omega) (by omega)]); unfold Bs; rw [e]; exact qm
    go_simp
    (with_reducible refine (Join_calls _ [.slice (some ⟨wd2.heap.size, 0, none⟩) 1 1, .slice A4 2 c4, .slice A8 2 c8, .slice A12 2 c12, .slice A16 4 c16, .slice (some ⟨wc32.heap.size, 0, none⟩) 2 2, .slice A f.data.length c] [[86], low f.epoch 2, low f.seq 2, low f.next 2, low f.bits 4, [UInt8.ofNat f.marks, UInt8.ofNat f.data.length], f.data] 7 7 (wa33.heap.size) _ qz (Bss.cons qa' rfl (Bss.cons hs4 (low_length _ _) (Bss.cons hs8 (low_length _ _) (Bss.cons hs12 (low_length _ _) (Bss.cons hs16 (low_length _ _) (Bss.cons qm' rfl (Bss.cons hs rfl (Bss.nil_ _)))))))) rfl (by simp [maxLen]) (by rw [hParts.out]; have := HRL.out; omega)).mono ?_)
    rintro e wc36 ⟨vj, rfl, hrow, g35⟩
    replace q := box_ext q g35
    replace hs := Sl.ext hs g35
    replace qa := Sl.ext qa g35
    replace hs4 := Sl.ext hs4 g35
    replace hs8 := Sl.ext hs8 g35
    replace hs12 := Sl.ext hs12 g35
    replace hs16 := Sl.ext hs16 g35
    replace qm := Sl.ext qm g35
    replace qz := Sl.ext qz g35
    replace hb := hb.trans (g35.mono hb.size)
    clear g35
    rw [hParts.out] at hrow
    obtain ⟨Aj, cj, bj, rfl, -, -, -, -, hsj, -⟩ := hrow.sl
    clear hrow
    go_wp2_with fail
    refine hKK.out _ _ ?_ (fun hHeld => ?_)
    · exact q
    clear hKK KK
    try simp only [Act.put, List.setIfInBounds_toArray, List.set_cons_zero, List.set_cons_succ]
    refine wpAnyH_ready (rs := [28]) (by kernel_rfl) (by simp) ?_
    refine AllReadyH.cons (by simp only [List.getElem?_toArray, List.getElem?_cons_succ, List.getElem?_cons_zero]; rfl) (fun KK hKK => ?_) AllReadyH.nil
    rw [if_pos (by kernel_rfl)]
    have hb0 := hb.size
    go_simp
    (with_reducible refine (RefSeal_calls Aj f.raw f.raw.length cj bj _ hsj rfl (by have := HRL.out; omega)).mono ?_)
    rintro e wc38 ⟨vs, rfl, hfin, g37⟩
    replace q := box_ext q g37
    replace hs := Sl.ext hs g37
    replace qa := Sl.ext qa g37
    replace hs4 := Sl.ext hs4 g37
    replace hs8 := Sl.ext hs8 g37
    replace hs12 := Sl.ext hs12 g37
    replace hs16 := Sl.ext hs16 g37
    replace qm := Sl.ext qm g37
    replace qz := Sl.ext qz g37
    replace hsj := Sl.ext hsj g37
    replace hb := hb.trans (g37.mono hb.size)
    clear g37
    replace hfin := hfin.low hb0
    go_wp2_with fail
    refine hKK.out _ _ ?_ (fun hHeld => ?_)
    · exact q
    clear hKK KK
    try simp only [Act.put, List.setIfInBounds_toArray, List.set_cons_zero, List.set_cons_succ]
    refine wpAnyH_take (i := 29) (v := ?vt139) (by simp only [List.getElem?_toArray, List.getElem?_cons_succ, List.getElem?_cons_zero]; rfl) (by kernel_rfl) (by kernel_rfl) (by kernel_rfl) (by exact fun _ _ _ h => h) (Or.inl ⟨by kernel_rfl, ?yt139⟩) hHeld ?_
    case yt139 => (intro ww hSw; (try dsimp only at hSw); clear hSw; go_simp; try (with_reducible rfl))
    try simp only [Act.put, List.setIfInBounds_toArray, List.set_cons_zero, List.set_cons_succ]
    refine wpAnyH_done (by kernel_rfl) ?_ _
    go_wp2_with fail
    go_ret
    exact ⟨_, rfl, hfin, hb⟩
  · skip
    rw [if_pos (by kernel_rfl)]
    go_simp
    (with_reducible refine (Low_calls f.epoch 2 _ (by omega) (by omega) (by omega)).mono ?_)
    rintro e wc41 ⟨v4, rfl, hrow, g40⟩
    replace q := box_ext q g40
    replace hs := Sl.ext hs g40
    replace hb := hb.trans (g40.mono hb.size)
    clear g40
    rw [show (2 : Int).toNat = 2 from rfl] at hrow
    obtain ⟨A4, c4, b4, rfl, -, -, -, -, hs4, -⟩ := hrow.sl
    rw [low_length]
    clear hrow
    go_wp2_with fail
    refine hKK.out _ _ ?_ (fun hHeld => ?_)
    · exact q
    clear hKK KK
    try simp only [Act.put, List.setIfInBounds_toArray, List.set_cons_zero, List.set_cons_succ]
    refine wpAnyH_ready (rs := [0, 8]) (by kernel_rfl) (by simp) ?_
    refine AllReadyH.cons (by simp only [List.getElem?_toArray, List.getElem?_cons_zero]; rfl) (fun KK hKK => ?_) (AllReadyH.cons (by simp only [List.getElem?_toArray, List.getElem?_cons_succ, List.getElem?_cons_zero]; rfl) (fun KK hKK => ?_) AllReadyH.nil)
    · skip
      rw [if_pos (by kernel_rfl)]
      go_simp
      obtain ⟨wa42, hwa42⟩ : ∃ wa42, wa42 = wc41.alloc (.cells #[.int .u8 86] 5) := ⟨_, rfl⟩
      have h9 : Below wc41.heap.size wc41 wa42 := by rw [hwa42]; exact below_alloc1 _ _
      have qa : Sl wa42 wc41.heap.size (some ⟨wc41.heap.size, 0, none⟩) [.int .u8 86] := by rw [hwa42]; exact Sl.cells_new _ _ _
      rw [← hwa42]
      clear hwa42
      replace q := box_ext q h9
      replace hs := Sl.ext hs h9
      replace hs4 := Sl.ext hs4 h9
      replace hb := hb.trans (h9.mono hb.size)
      clear h9
      refine hKK.out _ _ ?_ (fun hHeld => ?_)
      · exact q
      clear hKK KK
      try simp only [Act.put, List.setIfInBounds_toArray, List.set_cons_zero, List.set_cons_succ]
      refine wpAnyH_ready (rs := [8]) (by kernel_rfl) (by simp) ?_
      refine AllReadyH.cons (by simp only [List.getElem?_toArray, List.getElem?_cons_succ, List.getElem?_cons_zero]; rfl) (fun KK hKK => ?_) AllReadyH.nil
      rw [if_pos (by kernel_rfl)]
      go_simp
      (with_reducible refine (Low_calls f.seq 2 _ (by omega) (by omega) (by omega)).mono ?_)
      rintro e wc44 ⟨v8, rfl, hrow, g43⟩
      replace q := box_ext q g43
      replace hs := Sl.ext hs g43
      replace hs4 := Sl.ext hs4 g43
      replace qa := Sl.ext qa g43
      replace hb := hb.trans (g43.mono hb.size)
      clear g43
      rw [show (2 : Int).toNat = 2 from rfl] at hrow
      obtain ⟨A8, c8, b8, rfl, -, -, -, -, hs8, -⟩ := hrow.sl
      rw [low_length]
      clear hrow
      go_wp2_with fail
      refine hKK.out _ _ ?_ (fun hHeld => ?_)
      · exact q
      clear hKK KK
      try simp only [Act.put, List.setIfInBounds_toArray, List.set_cons_zero, List.set_cons_succ]
      refine wpAnyH_ready (rs := [12]) (by kernel_rfl) (by simp) ?_
      refine AllReadyH.cons (by simp only [List.getElem?_toArray, List.getElem?_cons_succ, List.getElem?_cons_zero]; rfl) (fun KK hKK => ?_) AllReadyH.nil
      rw [if_pos (by kernel_rfl)]
      go_simp
      (with_reducible refine (Low_calls f.next 2 _ (by omega) (by omega) (by omega)).mono ?_)
      rintro e wc46 ⟨v12, rfl, hrow, g45⟩
      replace q := box_ext q g45
      replace hs := Sl.ext hs g45
      replace hs4 := Sl.ext hs4 g45
      replace qa := Sl.ext qa g45
      replace hs8 := Sl.ext hs8 g45
      replace hb := hb.trans (g45.mono hb.size)
      clear g45
      rw [show (2 : Int).toNat = 2 from rfl] at hrow
      obtain ⟨A12, c12, b12, rfl, -, -, -, -, hs12, -⟩ := hrow.sl
      rw [low_length]
      clear hrow
      go_wp2_with fail
      refine hKK.out _ _ ?_ (fun hHeld => ?_)
      · exact q
      clear hKK KK
      try simp only [Act.put, List.setIfInBounds_toArray, List.set_cons_zero, List.set_cons_succ]
      refine wpAnyH_ready (rs := [16]) (by kernel_rfl) (by simp) ?_
      refine AllReadyH.cons (by simp only [List.getElem?_toArray, List.getElem?_cons_succ, List.getElem?_cons_zero]; rfl) (fun KK hKK => ?_) AllReadyH.nil
      rw [if_pos (by kernel_rfl)]
      go_simp
      (with_reducible refine (Low_calls f.bits 4 _ (by omega) (by omega) (by omega)).mono ?_)
      rintro e wc48 ⟨v16, rfl, hrow, g47⟩
      replace q := box_ext q g47
      replace hs := Sl.ext hs g47
      replace hs4 := Sl.ext hs4 g47
      replace qa := Sl.ext qa g47
      replace hs8 := Sl.ext hs8 g47
      replace hs12 := Sl.ext hs12 g47
      replace hb := hb.trans (g47.mono hb.size)
      clear g47
      rw [show (4 : Int).toNat = 4 from rfl] at hrow
      obtain ⟨A16, c16, b16, rfl, -, -, -, -, hs16, -⟩ := hrow.sl
      rw [low_length]
      clear hrow
      go_wp2_with fail
      refine hKK.out _ _ ?_ (fun hHeld => ?_)
      · exact q
      clear hKK KK
      try simp only [Act.put, List.setIfInBounds_toArray, List.set_cons_zero, List.set_cons_succ]
      refine wpAnyH_ready (rs := [18]) (by kernel_rfl) (by simp) ?_
      refine AllReadyH.cons (by simp only [List.getElem?_toArray, List.getElem?_cons_succ, List.getElem?_cons_zero]; rfl) (fun KK hKK => ?_) AllReadyH.nil
      rw [if_pos (by kernel_rfl)]
      go_simp
      (with_reducible refine (hF _).mono ?_)
      rintro e wc50 ⟨rfl, g49⟩
      replace q := box_ext q g49
      replace hs := Sl.ext hs g49
      replace hs4 := Sl.ext hs4 g49
      replace qa := Sl.ext qa g49
      replace hs8 := Sl.ext hs8 g49
      replace hs12 := Sl.ext hs12 g49
      replace hs16 := Sl.ext hs16 g49
      replace hb := hb.trans (g49.mono hb.size)
      clear g49
      go_wp2_with fail
      refine hKK.out _ _ ?_ (fun hHeld => ?_)
      · exact q
      clear hKK KK
      try simp only [Act.put, List.setIfInBounds_toArray, List.set_cons_zero, List.set_cons_succ]
      refine wpAnyH_ready (rs := [23]) (by kernel_rfl) (by simp) ?_
      refine AllReadyH.cons (by simp only [List.getElem?_toArray, List.getElem?_cons_succ, List.getElem?_cons_zero]; rfl) (fun KK hKK => ?_) AllReadyH.nil
      rw [if_pos (by kernel_rfl)]
      go_simp
      obtain ⟨wa51, hwa51⟩ : ∃ wa51, wa51 = wc50.alloc (.cells #[.int .u8 (f.marks : Int), .int .u8 (f.data.length : Int)] 5) := ⟨_, rfl⟩
      have h9 : Below wc50.heap.size wc50 wa51 := by rw [hwa51]; exact below_alloc1 _ _
      have qm : Sl wa51 wc50.heap.size (some ⟨wc50.heap.size, 0, none⟩) [.int .u8 (f.marks : Int), .int .u8 (f.data.length : Int)] := by rw [hwa51]; exact Sl.cells_new _ _ _
      rw [← hwa51]
      clear hwa51
      replace q := box_ext q h9
      replace hs := Sl.ext hs h9
      replace hs4 := Sl.ext hs4 h9
      replace qa := Sl.ext qa h9
      replace hs8 := Sl.ext hs8 h9
      replace hs12 := Sl.ext hs12 h9
      replace hs16 := Sl.ext hs16 h9
      replace hb := hb.trans (h9.mono hb.size)
      clear h9
      refine hKK.out _ _ ?_ (fun hHeld => ?_)
      · exact q
      clear hKK KK
      try simp only [Act.put, List.setIfInBounds_toArray, List.set_cons_zero, List.set_cons_succ]
      refine wpAnyH_ready (rs := [26]) (by kernel_rfl) (by simp) ?_
      refine AllReadyH.cons (by simp only [List.getElem?_toArray, List.getElem?_cons_succ, List.getElem?_cons_zero]; rfl) (fun KK hKK => ?_) AllReadyH.nil
      rw [if_pos (by kernel_rfl)]
      go_simp
      obtain ⟨wa52, hwa52⟩ : ∃ wa52, wa52 = wa51.alloc (.cells #[.slice (some ⟨wc41.heap.size, 0, none⟩) 1 1, .slice A4 2 c4, .slice A8 2 c8, .slice A12 2 c12, .slice A16 4 c16, .slice (some ⟨wc50.heap.size, 0, none⟩) 2 2, .slice A f.data.length c] 27) := ⟨_, rfl⟩
      have h9 : Below wa51.heap.size wa51 wa52 := by rw [hwa52]; exact below_alloc1 _ _
      have qz : Sl wa52 wa51.heap.size (some ⟨wa51.heap.size, 0, none⟩) [.slice (some ⟨wc41.heap.size, 0, none⟩) 1 1, .slice A4 2 c4, .slice A8 2 c8, .slice A12 2 c12, .slice A16 4 c16, .slice (some ⟨wc50.heap.size, 0, none⟩) 2 2, .slice A f.data.length c] := by rw [hwa52]; exact Sl.cells_new _ _ _
      rw [← hwa52]
      clear hwa52
      replace q := box_ext q h9
      replace hs := Sl.ext hs h9
      replace hs4 := Sl.ext hs4 h9
      replace qa := Sl.ext qa h9
      replace hs8 := Sl.ext hs8 h9
      replace hs12 := Sl.ext hs12 h9
      replace hs16 := Sl.ext hs16 h9
      replace qm := Sl.ext qm h9
      replace hb := hb.trans (h9.mono hb.size)
      clear h9
      refine hKK.out _ _ ?_ (fun hHeld => ?_)
      · exact q
      clear hKK KK
      try simp only [Act.put, List.setIfInBounds_toArray, List.set_cons_zero, List.set_cons_succ]
      refine wpAnyH_ready (rs := [27]) (by kernel_rfl) (by simp) ?_
      refine AllReadyH.cons (by simp only [List.getElem?_toArray, List.getElem?_cons_succ, List.getElem?_cons_zero]; rfl) (fun KK hKK => ?_) AllReadyH.nil
      rw [if_pos (by kernel_rfl)]
      have qa' : Bs wa52 (wc41.heap.size) (some ⟨wc41.heap.size, 0, none⟩) [86] := qa
      have qm' : Bs wa52 (wc50.heap.size) (some ⟨wc50.heap.size, 0, none⟩) [UInt8.ofNat f.marks, UInt8.ofNat f.data.length] := by have e : bv [UInt8.ofNat f.marks, UInt8.ofNat f.data.length] = [.int .u8 (f.marks : Int), .int .u8 (f.data.length : Int)] := (by simp only [bv, List.map_cons, List.map_nil, u8_ofNat]; rw [Int.emod_eq_of_lt (by omega) (by omega), Int.emod_eq_of_lt (by omega) (by omega)]); unfold Bs; rw [e]; exact qm
      go_simp
      (with_reducible refine (Join_calls _ [.slice (some ⟨wc41.heap.size, 0, none⟩) 1 1, .slice A4 2 c4, .slice A8 2 c8, .slice A12 2 c12, .slice A16 4 c16, .slice (some ⟨wc50.heap.size, 0, none⟩) 2 2, .slice A f.data.length c] [[86], low f.epoch 2, low f.seq 2, low f.next 2, low f.bits 4, [UInt8.ofNat f.marks, UInt8.ofNat f.data.length], f.data] 7 7 (wa51.heap.size) _ qz (Bss.cons qa' rfl (Bss.cons hs4 (low_length _ _) (Bss.cons hs8 (low_length _ _) (Bss.cons hs12 (low_length _ _) (Bss.cons hs16 (low_length _ _) (Bss.cons qm' rfl (Bss.cons hs rfl (Bss.nil_ _)))))))) rfl (by simp [maxLen]) (by rw [hParts.out]; have := HRL.out; omega)).mono ?_)
      rintro e wc54 ⟨vj, rfl, hrow, g53⟩
      replace q := box_ext q g53
      replace hs := Sl.ext hs g53
      replace hs4 := Sl.ext hs4 g53
      replace qa := Sl.ext qa g53
      replace hs8 := Sl.ext hs8 g53
      replace hs12 := Sl.ext hs12 g53
      replace hs16 := Sl.ext hs16 g53
      replace qm := Sl.ext qm g53
      replace qz := Sl.ext qz g53
      replace hb := hb.trans (g53.mono hb.size)
      clear g53
      rw [hParts.out] at hrow
      obtain ⟨Aj, cj, bj, rfl, -, -, -, -, hsj, -⟩ := hrow.sl
      clear hrow
      go_wp2_with fail
      refine hKK.out _ _ ?_ (fun hHeld => ?_)
      · exact q
      clear hKK KK
      try simp only [Act.put, List.setIfInBounds_toArray, List.set_cons_zero, List.set_cons_succ]
      refine wpAnyH_ready (rs := [28]) (by kernel_rfl) (by simp) ?_
      refine AllReadyH.cons (by simp only [List.getElem?_toArray, List.getElem?_cons_succ, List.getElem?_cons_zero]; rfl) (fun KK hKK => ?_) AllReadyH.nil
      rw [if_pos (by kernel_rfl)]
      have hb0 := hb.size
      go_simp
      (with_reducible refine (RefSeal_calls Aj f.raw f.raw.length cj bj _ hsj rfl (by have := HRL.out; omega)).mono ?_)
      rintro e wc56 ⟨vs, rfl, hfin, g55⟩
      replace q := box_ext q g55
      replace hs := Sl.ext hs g55
      replace hs4 := Sl.ext hs4 g55
      replace qa := Sl.ext qa g55
      replace hs8 := Sl.ext hs8 g55
      replace hs12 := Sl.ext hs12 g55
      replace hs16 := Sl.ext hs16 g55
      replace qm := Sl.ext qm g55
      replace qz := Sl.ext qz g55
      replace hsj := Sl.ext hsj g55
      replace hb := hb.trans (g55.mono hb.size)
      clear g55
      replace hfin := hfin.low hb0
      go_wp2_with fail
      refine hKK.out _ _ ?_ (fun hHeld => ?_)
      · exact q
      clear hKK KK
      try simp only [Act.put, List.setIfInBounds_toArray, List.set_cons_zero, List.set_cons_succ]
      refine wpAnyH_take (i := 29) (v := ?vt157) (by simp only [List.getElem?_toArray, List.getElem?_cons_succ, List.getElem?_cons_zero]; rfl) (by kernel_rfl) (by kernel_rfl) (by kernel_rfl) (by exact fun _ _ _ h => h) (Or.inl ⟨by kernel_rfl, ?yt157⟩) hHeld ?_
      case yt157 => (intro ww hSw; (try dsimp only at hSw); clear hSw; go_simp; try (with_reducible rfl))
      try simp only [Act.put, List.setIfInBounds_toArray, List.set_cons_zero, List.set_cons_succ]
      refine wpAnyH_done (by kernel_rfl) ?_ _
      go_wp2_with fail
      go_ret
      exact ⟨_, rfl, hfin, hb⟩
    · skip
      rw [if_pos (by kernel_rfl)]
      go_simp
      (with_reducible refine (Low_calls f.seq 2 _ (by omega) (by omega) (by omega)).mono ?_)
      rintro e wc59 ⟨v8, rfl, hrow, g58⟩
      replace q := box_ext q g58
      replace hs := Sl.ext hs g58
      replace hs4 := Sl.ext hs4 g58
      replace hb := hb.trans (g58.mono hb.size)
      clear g58
      rw [show (2 : Int).toNat = 2 from rfl] at hrow
      obtain ⟨A8, c8, b8, rfl, -, -, -, -, hs8, -⟩ := hrow.sl
      rw [low_length]
      clear hrow
      go_wp2_with fail
      refine hKK.out _ _ ?_ (fun hHeld => ?_)
      · exact q
      clear hKK KK
      try simp only [Act.put, List.setIfInBounds_toArray, List.set_cons_zero, List.set_cons_succ]
      refine wpAnyH_ready (rs := [0, 12]) (by kernel_rfl) (by simp) ?_
      refine AllReadyH.cons (by simp only [List.getElem?_toArray, List.getElem?_cons_zero]; rfl) (fun KK hKK => ?_) (AllReadyH.cons (by simp only [List.getElem?_toArray, List.getElem?_cons_succ, List.getElem?_cons_zero]; rfl) (fun KK hKK => ?_) AllReadyH.nil)
      · skip
        rw [if_pos (by kernel_rfl)]
        go_simp
        obtain ⟨wa60, hwa60⟩ : ∃ wa60, wa60 = wc59.alloc (.cells #[.int .u8 86] 5) := ⟨_, rfl⟩
        have h9 : Below wc59.heap.size wc59 wa60 := by rw [hwa60]; exact below_alloc1 _ _
        have qa : Sl wa60 wc59.heap.size (some ⟨wc59.heap.size, 0, none⟩) [.int .u8 86] := by rw [hwa60]; exact Sl.cells_new _ _ _
        rw [← hwa60]
        clear hwa60
        replace q := box_ext q h9
        replace hs := Sl.ext hs h9
        replace hs4 := Sl.ext hs4 h9
        replace hs8 := Sl.ext hs8 h9
        replace hb := hb.trans (h9.mono hb.size)
        clear h9
        refine hKK.out _ _ ?_ (fun hHeld => ?_)
        · exact q
        clear hKK KK
        try simp only [Act.put, List.setIfInBounds_toArray, List.set_cons_zero, List.set_cons_succ]
        refine wpAnyH_ready (rs := [12]) (by kernel_rfl) (by simp) ?_
        refine AllReadyH.cons (by simp only [List.getElem?_toArray, List.getElem?_cons_succ, List.getElem?_cons_zero]; rfl) (fun KK hKK => ?_) AllReadyH.nil
        rw [if_pos (by kernel_rfl)]
        go_simp
        (with_reducible refine (Low_calls f.next 2 _ (by omega) (by omega) (by omega)).mono ?_)
        rintro e wc62 ⟨v12, rfl, hrow, g61⟩
        replace q := box_ext q g61
        replace hs := Sl.ext hs g61
        replace hs4 := Sl.ext hs4 g61
        replace hs8 := Sl.ext hs8 g61
        replace qa := Sl.ext qa g61
        replace hb := hb.trans (g61.mono hb.size)
        clear g61
        rw [show (2 : Int).toNat = 2 from rfl] at hrow
        obtain ⟨A12, c12, b12, rfl, -, -, -, -, hs12, -⟩ := hrow.sl
        rw [low_length]
        clear hrow
        go_wp2_with fail
        refine hKK.out _ _ ?_ (fun hHeld => ?_)
        · exact q
        clear hKK KK
        try simp only [Act.put, List.setIfInBounds_toArray, List.set_cons_zero, List.set_cons_succ]
        refine wpAnyH_ready (rs := [16]) (by kernel_rfl) (by simp) ?_
        refine AllReadyH.cons (by simp only [List.getElem?_toArray, List.getElem?_cons_succ, List.getElem?_cons_zero]; rfl) (fun KK hKK => ?_) AllReadyH.nil
        rw [if_pos (by kernel_rfl)]
        go_simp
        (with_reducible refine (Low_calls f.bits 4 _ (by omega) (by omega) (by omega)).mono ?_)
        rintro e wc64 ⟨v16, rfl, hrow, g63⟩
        replace q := box_ext q g63
        replace hs := Sl.ext hs g63
        replace hs4 := Sl.ext hs4 g63
        replace hs8 := Sl.ext hs8 g63
        replace qa := Sl.ext qa g63
        replace hs12 := Sl.ext hs12 g63
        replace hb := hb.trans (g63.mono hb.size)
        clear g63
        rw [show (4 : Int).toNat = 4 from rfl] at hrow
        obtain ⟨A16, c16, b16, rfl, -, -, -, -, hs16, -⟩ := hrow.sl
        rw [low_length]
        clear hrow
        go_wp2_with fail
        refine hKK.out _ _ ?_ (fun hHeld => ?_)
        · exact q
        clear hKK KK
        try simp only [Act.put, List.setIfInBounds_toArray, List.set_cons_zero, List.set_cons_succ]
        refine wpAnyH_ready (rs := [18]) (by kernel_rfl) (by simp) ?_
        refine AllReadyH.cons (by simp only [List.getElem?_toArray, List.getElem?_cons_succ, List.getElem?_cons_zero]; rfl) (fun KK hKK => ?_) AllReadyH.nil
        rw [if_pos (by kernel_rfl)]
        go_simp
        (with_reducible refine (hF _).mono ?_)
        rintro e wc66 ⟨rfl, g65⟩
        replace q := box_ext q g65
        replace hs := Sl.ext hs g65
        replace hs4 := Sl.ext hs4 g65
        replace hs8 := Sl.ext hs8 g65
        replace qa := Sl.ext qa g65
        replace hs12 := Sl.ext hs12 g65
        replace hs16 := Sl.ext hs16 g65
        replace hb := hb.trans (g65.mono hb.size)
        clear g65
        go_wp2_with fail
        refine hKK.out _ _ ?_ (fun hHeld => ?_)
        · exact q
        clear hKK KK
        try simp only [Act.put, List.setIfInBounds_toArray, List.set_cons_zero, List.set_cons_succ]
        refine wpAnyH_ready (rs := [23]) (by kernel_rfl) (by simp) ?_
        refine AllReadyH.cons (by simp only [List.getElem?_toArray, List.getElem?_cons_succ, List.getElem?_cons_zero]; rfl) (fun KK hKK => ?_) AllReadyH.nil
        rw [if_pos (by kernel_rfl)]
        go_simp
        obtain ⟨wa67, hwa67⟩ : ∃ wa67, wa67 = wc66.alloc (.cells #[.int .u8 (f.marks : Int), .int .u8 (f.data.length : Int)] 5) := ⟨_, rfl⟩
        have h9 : Below wc66.heap.size wc66 wa67 := by rw [hwa67]; exact below_alloc1 _ _
        have qm : Sl wa67 wc66.heap.size (some ⟨wc66.heap.size, 0, none⟩) [.int .u8 (f.marks : Int), .int .u8 (f.data.length : Int)] := by rw [hwa67]; exact Sl.cells_new _ _ _
        rw [← hwa67]
        clear hwa67
        replace q := box_ext q h9
        replace hs := Sl.ext hs h9
        replace hs4 := Sl.ext hs4 h9
        replace hs8 := Sl.ext hs8 h9
        replace qa := Sl.ext qa h9
        replace hs12 := Sl.ext hs12 h9
        replace hs16 := Sl.ext hs16 h9
        replace hb := hb.trans (h9.mono hb.size)
        clear h9
        refine hKK.out _ _ ?_ (fun hHeld => ?_)
        · exact q
        clear hKK KK
        try simp only [Act.put, List.setIfInBounds_toArray, List.set_cons_zero, List.set_cons_succ]
        refine wpAnyH_ready (rs := [26]) (by kernel_rfl) (by simp) ?_
        refine AllReadyH.cons (by simp only [List.getElem?_toArray, List.getElem?_cons_succ, List.getElem?_cons_zero]; rfl) (fun KK hKK => ?_) AllReadyH.nil
        rw [if_pos (by kernel_rfl)]
        go_simp
        obtain ⟨wa68, hwa68⟩ : ∃ wa68, wa68 = wa67.alloc (.cells #[.slice (some ⟨wc59.heap.size, 0, none⟩) 1 1, .slice A4 2 c4, .slice A8 2 c8, .slice A12 2 c12, .slice A16 4 c16, .slice (some ⟨wc66.heap.size, 0, none⟩) 2 2, .slice A f.data.length c] 27) := ⟨_, rfl⟩
        have h9 : Below wa67.heap.size wa67 wa68 := by rw [hwa68]; exact below_alloc1 _ _
        have qz : Sl wa68 wa67.heap.size (some ⟨wa67.heap.size, 0, none⟩) [.slice (some ⟨wc59.heap.size, 0, none⟩) 1 1, .slice A4 2 c4, .slice A8 2 c8, .slice A12 2 c12, .slice A16 4 c16, .slice (some ⟨wc66.heap.size, 0, none⟩) 2 2, .slice A f.data.length c] := by rw [hwa68]; exact Sl.cells_new _ _ _
        rw [← hwa68]
        clear hwa68
        replace q := box_ext q h9
        replace hs := Sl.ext hs h9
        replace hs4 := Sl.ext hs4 h9
        replace hs8 := Sl.ext hs8 h9
        replace qa := Sl.ext qa h9
        replace hs12 := Sl.ext hs12 h9
        replace hs16 := Sl.ext hs16 h9
        replace qm := Sl.ext qm h9
        replace hb := hb.trans (h9.mono hb.size)
        clear h9
        refine hKK.out _ _ ?_ (fun hHeld => ?_)
        · exact q
        clear hKK KK
        try simp only [Act.put, List.setIfInBounds_toArray, List.set_cons_zero, List.set_cons_succ]
        refine wpAnyH_ready (rs := [27]) (by kernel_rfl) (by simp) ?_
        refine AllReadyH.cons (by simp only [List.getElem?_toArray, List.getElem?_cons_succ, List.getElem?_cons_zero]; rfl) (fun KK hKK => ?_) AllReadyH.nil
        rw [if_pos (by kernel_rfl)]
        have qa' : Bs wa68 (wc59.heap.size) (some ⟨wc59.heap.size, 0, none⟩) [86] := qa
        have qm' : Bs wa68 (wc66.heap.size) (some ⟨wc66.heap.size, 0, none⟩) [UInt8.ofNat f.marks, UInt8.ofNat f.data.length] := by have e : bv [UInt8.ofNat f.marks, UInt8.ofNat f.data.length] = [.int .u8 (f.marks : Int), .int .u8 (f.data.length : Int)] := (by simp only [bv, List.map_cons, List.map_nil, u8_ofNat]; rw [Int.emod_eq_of_lt (by omega) (by omega), Int.emod_eq_of_lt (by omega) (by omega)]); unfold Bs; rw [e]; exact qm
        go_simp
        (with_reducible refine (Join_calls _ [.slice (some ⟨wc59.heap.size, 0, none⟩) 1 1, .slice A4 2 c4, .slice A8 2 c8, .slice A12 2 c12, .slice A16 4 c16, .slice (some ⟨wc66.heap.size, 0, none⟩) 2 2, .slice A f.data.length c] [[86], low f.epoch 2, low f.seq 2, low f.next 2, low f.bits 4, [UInt8.ofNat f.marks, UInt8.ofNat f.data.length], f.data] 7 7 (wa67.heap.size) _ qz (Bss.cons qa' rfl (Bss.cons hs4 (low_length _ _) (Bss.cons hs8 (low_length _ _) (Bss.cons hs12 (low_length _ _) (Bss.cons hs16 (low_length _ _) (Bss.cons qm' rfl (Bss.cons hs rfl (Bss.nil_ _)))))))) rfl (by simp [maxLen]) (by rw [hParts.out]; have := HRL.out; omega)).mono ?_)
        rintro e wc70 ⟨vj, rfl, hrow, g69⟩
        replace q := box_ext q g69
        replace hs := Sl.ext hs g69
        replace hs4 := Sl.ext hs4 g69
        replace hs8 := Sl.ext hs8 g69
        replace qa := Sl.ext qa g69
        replace hs12 := Sl.ext hs12 g69
        replace hs16 := Sl.ext hs16 g69
        replace qm := Sl.ext qm g69
        replace qz := Sl.ext qz g69
        replace hb := hb.trans (g69.mono hb.size)
        clear g69
        rw [hParts.out] at hrow
        obtain ⟨Aj, cj, bj, rfl, -, -, -, -, hsj, -⟩ := hrow.sl
        clear hrow
        go_wp2_with fail
        refine hKK.out _ _ ?_ (fun hHeld => ?_)
        · exact q
        clear hKK KK
        try simp only [Act.put, List.setIfInBounds_toArray, List.set_cons_zero, List.set_cons_succ]
        refine wpAnyH_ready (rs := [28]) (by kernel_rfl) (by simp) ?_
        refine AllReadyH.cons (by simp only [List.getElem?_toArray, List.getElem?_cons_succ, List.getElem?_cons_zero]; rfl) (fun KK hKK => ?_) AllReadyH.nil
        rw [if_pos (by kernel_rfl)]
        have hb0 := hb.size
        go_simp
        (with_reducible refine (RefSeal_calls Aj f.raw f.raw.length cj bj _ hsj rfl (by have := HRL.out; omega)).mono ?_)
        rintro e wc72 ⟨vs, rfl, hfin, g71⟩
        replace q := box_ext q g71
        replace hs := Sl.ext hs g71
        replace hs4 := Sl.ext hs4 g71
        replace hs8 := Sl.ext hs8 g71
        replace qa := Sl.ext qa g71
        replace hs12 := Sl.ext hs12 g71
        replace hs16 := Sl.ext hs16 g71
        replace qm := Sl.ext qm g71
        replace qz := Sl.ext qz g71
        replace hsj := Sl.ext hsj g71
        replace hb := hb.trans (g71.mono hb.size)
        clear g71
        replace hfin := hfin.low hb0
        go_wp2_with fail
        refine hKK.out _ _ ?_ (fun hHeld => ?_)
        · exact q
        clear hKK KK
        try simp only [Act.put, List.setIfInBounds_toArray, List.set_cons_zero, List.set_cons_succ]
        refine wpAnyH_take (i := 29) (v := ?vt173) (by simp only [List.getElem?_toArray, List.getElem?_cons_succ, List.getElem?_cons_zero]; rfl) (by kernel_rfl) (by kernel_rfl) (by kernel_rfl) (by exact fun _ _ _ h => h) (Or.inl ⟨by kernel_rfl, ?yt173⟩) hHeld ?_
        case yt173 => (intro ww hSw; (try dsimp only at hSw); clear hSw; go_simp; try (with_reducible rfl))
        try simp only [Act.put, List.setIfInBounds_toArray, List.set_cons_zero, List.set_cons_succ]
        refine wpAnyH_done (by kernel_rfl) ?_ _
        go_wp2_with fail
        go_ret
        exact ⟨_, rfl, hfin, hb⟩
      · skip
        rw [if_pos (by kernel_rfl)]
        go_simp
        (with_reducible refine (Low_calls f.next 2 _ (by omega) (by omega) (by omega)).mono ?_)
        rintro e wc75 ⟨v12, rfl, hrow, g74⟩
        replace q := box_ext q g74
        replace hs := Sl.ext hs g74
        replace hs4 := Sl.ext hs4 g74
        replace hs8 := Sl.ext hs8 g74
        replace hb := hb.trans (g74.mono hb.size)
        clear g74
        rw [show (2 : Int).toNat = 2 from rfl] at hrow
        obtain ⟨A12, c12, b12, rfl, -, -, -, -, hs12, -⟩ := hrow.sl
        rw [low_length]
        clear hrow
        go_wp2_with fail
        refine hKK.out _ _ ?_ (fun hHeld => ?_)
        · exact q
        clear hKK KK
        try simp only [Act.put, List.setIfInBounds_toArray, List.set_cons_zero, List.set_cons_succ]
        refine wpAnyH_ready (rs := [0, 16]) (by kernel_rfl) (by simp) ?_
        refine AllReadyH.cons (by simp only [List.getElem?_toArray, List.getElem?_cons_zero]; rfl) (fun KK hKK => ?_) (AllReadyH.cons (by simp only [List.getElem?_toArray, List.getElem?_cons_succ, List.getElem?_cons_zero]; rfl) (fun KK hKK => ?_) AllReadyH.nil)
        · skip
          rw [if_pos (by kernel_rfl)]
          go_simp
          obtain ⟨wa76, hwa76⟩ : ∃ wa76, wa76 = wc75.alloc (.cells #[.int .u8 86] 5) := ⟨_, rfl⟩
          have h9 : Below wc75.heap.size wc75 wa76 := by rw [hwa76]; exact below_alloc1 _ _
          have qa : Sl wa76 wc75.heap.size (some ⟨wc75.heap.size, 0, none⟩) [.int .u8 86] := by rw [hwa76]; exact Sl.cells_new _ _ _
          rw [← hwa76]
          clear hwa76
          replace q := box_ext q h9
          replace hs := Sl.ext hs h9
          replace hs4 := Sl.ext hs4 h9
          replace hs8 := Sl.ext hs8 h9
          replace hs12 := Sl.ext hs12 h9
          replace hb := hb.trans (h9.mono hb.size)
          clear h9
          refine hKK.out _ _ ?_ (fun hHeld => ?_)
          · exact q
          clear hKK KK
          try simp only [Act.put, List.setIfInBounds_toArray, List.set_cons_zero, List.set_cons_succ]
          refine wpAnyH_ready (rs := [16]) (by kernel_rfl) (by simp) ?_
          refine AllReadyH.cons (by simp only [List.getElem?_toArray, List.getElem?_cons_succ, List.getElem?_cons_zero]; rfl) (fun KK hKK => ?_) AllReadyH.nil
          rw [if_pos (by kernel_rfl)]
          go_simp
          (with_reducible refine (Low_calls f.bits 4 _ (by omega) (by omega) (by omega)).mono ?_)
          rintro e wc78 ⟨v16, rfl, hrow, g77⟩
          replace q := box_ext q g77
          replace hs := Sl.ext hs g77
          replace hs4 := Sl.ext hs4 g77
          replace hs8 := Sl.ext hs8 g77
          replace hs12 := Sl.ext hs12 g77
          replace qa := Sl.ext qa g77
          replace hb := hb.trans (g77.mono hb.size)
          clear g77
          rw [show (4 : Int).toNat = 4 from rfl] at hrow
          obtain ⟨A16, c16, b16, rfl, -, -, -, -, hs16, -⟩ := hrow.sl
          rw [low_length]
          clear hrow
          go_wp2_with fail
          refine hKK.out _ _ ?_ (fun hHeld => ?_)
          · exact q
          clear hKK KK
          try simp only [Act.put, List.setIfInBounds_toArray, List.set_cons_zero, List.set_cons_succ]
          refine wpAnyH_ready (rs := [18]) (by kernel_rfl) (by simp) ?_
          refine AllReadyH.cons (by simp only [List.getElem?_toArray, List.getElem?_cons_succ, List.getElem?_cons_zero]; rfl) (fun KK hKK => ?_) AllReadyH.nil
          rw [if_pos (by kernel_rfl)]
          go_simp
          (with_reducible refine (hF _).mono ?_)
          rintro e wc80 ⟨rfl, g79⟩
          replace q := box_ext q g79
          replace hs := Sl.ext hs g79
          replace hs4 := Sl.ext hs4 g79
          replace hs8 := Sl.ext hs8 g79
          replace hs12 := Sl.ext hs12 g79
          replace qa := Sl.ext qa g79
          replace hs16 := Sl.ext hs16 g79
          replace hb := hb.trans (g79.mono hb.size)
          clear g79
          go_wp2_with fail
          refine hKK.out _ _ ?_ (fun hHeld => ?_)
          · exact q
          clear hKK KK
          try simp only [Act.put, List.setIfInBounds_toArray, List.set_cons_zero, List.set_cons_succ]
          refine wpAnyH_ready (rs := [23]) (by kernel_rfl) (by simp) ?_
          refine AllReadyH.cons (by simp only [List.getElem?_toArray, List.getElem?_cons_succ, List.getElem?_cons_zero]; rfl) (fun KK hKK => ?_) AllReadyH.nil
          rw [if_pos (by kernel_rfl)]
          go_simp
          obtain ⟨wa81, hwa81⟩ : ∃ wa81, wa81 = wc80.alloc (.cells #[.int .u8 (f.marks : Int), .int .u8 (f.data.length : Int)] 5) := ⟨_, rfl⟩
          have h9 : Below wc80.heap.size wc80 wa81 := by rw [hwa81]; exact below_alloc1 _ _
          have qm : Sl wa81 wc80.heap.size (some ⟨wc80.heap.size, 0, none⟩) [.int .u8 (f.marks : Int), .int .u8 (f.data.length : Int)] := by rw [hwa81]; exact Sl.cells_new _ _ _
          rw [← hwa81]
          clear hwa81
          replace q := box_ext q h9
          replace hs := Sl.ext hs h9
          replace hs4 := Sl.ext hs4 h9
          replace hs8 := Sl.ext hs8 h9
          replace hs12 := Sl.ext hs12 h9
          replace qa := Sl.ext qa h9
          replace hs16 := Sl.ext hs16 h9
          replace hb := hb.trans (h9.mono hb.size)
          clear h9
          refine hKK.out _ _ ?_ (fun hHeld => ?_)
          · exact q
          clear hKK KK
          try simp only [Act.put, List.setIfInBounds_toArray, List.set_cons_zero, List.set_cons_succ]
          refine wpAnyH_ready (rs := [26]) (by kernel_rfl) (by simp) ?_
          refine AllReadyH.cons (by simp only [List.getElem?_toArray, List.getElem?_cons_succ, List.getElem?_cons_zero]; rfl) (fun KK hKK => ?_) AllReadyH.nil
          rw [if_pos (by kernel_rfl)]
          go_simp
          obtain ⟨wa82, hwa82⟩ : ∃ wa82, wa82 = wa81.alloc (.cells #[.slice (some ⟨wc75.heap.size, 0, none⟩) 1 1, .slice A4 2 c4, .slice A8 2 c8, .slice A12 2 c12, .slice A16 4 c16, .slice (some ⟨wc80.heap.size, 0, none⟩) 2 2, .slice A f.data.length c] 27) := ⟨_, rfl⟩
          have h9 : Below wa81.heap.size wa81 wa82 := by rw [hwa82]; exact below_alloc1 _ _
          have qz : Sl wa82 wa81.heap.size (some ⟨wa81.heap.size, 0, none⟩) [.slice (some ⟨wc75.heap.size, 0, none⟩) 1 1, .slice A4 2 c4, .slice A8 2 c8, .slice A12 2 c12, .slice A16 4 c16, .slice (some ⟨wc80.heap.size, 0, none⟩) 2 2, .slice A f.data.length c] := by rw [hwa82]; exact Sl.cells_new _ _ _
          rw [← hwa82]
          clear hwa82
          replace q := box_ext q h9
          replace hs := Sl.ext hs h9
          replace hs4 := Sl.ext hs4 h9
          replace hs8 := Sl.ext hs8 h9
          replace hs12 := Sl.ext hs12 h9
          replace qa := Sl.ext qa h9
          replace hs16 := Sl.ext hs16 h9
          replace qm := Sl.ext qm h9
          replace hb := hb.trans (h9.mono hb.size)
          clear h9
          refine hKK.out _ _ ?_ (fun hHeld => ?_)
          · exact q
          clear hKK KK
          try simp only [Act.put, List.setIfInBounds_toArray, List.set_cons_zero, List.set_cons_succ]
          refine wpAnyH_ready (rs := [27]) (by kernel_rfl) (by simp) ?_
          refine AllReadyH.cons (by simp only [List.getElem?_toArray, List.getElem?_cons_succ, List.getElem?_cons_zero]; rfl) (fun KK hKK => ?_) AllReadyH.nil
          rw [if_pos (by kernel_rfl)]
          have qa' : Bs wa82 (wc75.heap.size) (some ⟨wc75.heap.size, 0, none⟩) [86] := qa
          have qm' : Bs wa82 (wc80.heap.size) (some ⟨wc80.heap.size, 0, none⟩) [UInt8.ofNat f.marks, UInt8.ofNat f.data.length] := by have e : bv [UInt8.ofNat f.marks, UInt8.ofNat f.data.length] = [.int .u8 (f.marks : Int), .int .u8 (f.data.length : Int)] := (by simp only [bv, List.map_cons, List.map_nil, u8_ofNat]; rw [Int.emod_eq_of_lt (by omega) (by omega), Int.emod_eq_of_lt (by omega) (by omega)]); unfold Bs; rw [e]; exact qm
          go_simp
          (with_reducible refine (Join_calls _ [.slice (some ⟨wc75.heap.size, 0, none⟩) 1 1, .slice A4 2 c4, .slice A8 2 c8, .slice A12 2 c12, .slice A16 4 c16, .slice (some ⟨wc80.heap.size, 0, none⟩) 2 2, .slice A f.data.length c] [[86], low f.epoch 2, low f.seq 2, low f.next 2, low f.bits 4, [UInt8.ofNat f.marks, UInt8.ofNat f.data.length], f.data] 7 7 (wa81.heap.size) _ qz (Bss.cons qa' rfl (Bss.cons hs4 (low_length _ _) (Bss.cons hs8 (low_length _ _) (Bss.cons hs12 (low_length _ _) (Bss.cons hs16 (low_length _ _) (Bss.cons qm' rfl (Bss.cons hs rfl (Bss.nil_ _)))))))) rfl (by simp [maxLen]) (by rw [hParts.out]; have := HRL.out; omega)).mono ?_)
          rintro e wc84 ⟨vj, rfl, hrow, g83⟩
          replace q := box_ext q g83
          replace hs := Sl.ext hs g83
          replace hs4 := Sl.ext hs4 g83
          replace hs8 := Sl.ext hs8 g83
          replace hs12 := Sl.ext hs12 g83
          replace qa := Sl.ext qa g83
          replace hs16 := Sl.ext hs16 g83
          replace qm := Sl.ext qm g83
          replace qz := Sl.ext qz g83
          replace hb := hb.trans (g83.mono hb.size)
          clear g83
          rw [hParts.out] at hrow
          obtain ⟨Aj, cj, bj, rfl, -, -, -, -, hsj, -⟩ := hrow.sl
          clear hrow
          go_wp2_with fail
          refine hKK.out _ _ ?_ (fun hHeld => ?_)
          · exact q
          clear hKK KK
          try simp only [Act.put, List.setIfInBounds_toArray, List.set_cons_zero, List.set_cons_succ]
          refine wpAnyH_ready (rs := [28]) (by kernel_rfl) (by simp) ?_
          refine AllReadyH.cons (by simp only [List.getElem?_toArray, List.getElem?_cons_succ, List.getElem?_cons_zero]; rfl) (fun KK hKK => ?_) AllReadyH.nil
          rw [if_pos (by kernel_rfl)]
          have hb0 := hb.size
          go_simp
          (with_reducible refine (RefSeal_calls Aj f.raw f.raw.length cj bj _ hsj rfl (by have := HRL.out; omega)).mono ?_)
          rintro e wc86 ⟨vs, rfl, hfin, g85⟩
          replace q := box_ext q g85
          replace hs := Sl.ext hs g85
          replace hs4 := Sl.ext hs4 g85
          replace hs8 := Sl.ext hs8 g85
          replace hs12 := Sl.ext hs12 g85
          replace qa := Sl.ext qa g85
          replace hs16 := Sl.ext hs16 g85
          replace qm := Sl.ext qm g85
          replace qz := Sl.ext qz g85
          replace hsj := Sl.ext hsj g85
          replace hb := hb.trans (g85.mono hb.size)
          clear g85
          replace hfin := hfin.low hb0
          go_wp2_with fail
          refine hKK.out _ _ ?_ (fun hHeld => ?_)
          · exact q
          clear hKK KK
          try simp only [Act.put, List.setIfInBounds_toArray, List.set_cons_zero, List.set_cons_succ]
          refine wpAnyH_take (i := 29) (v := ?vt187) (by simp only [List.getElem?_toArray, List.getElem?_cons_succ, List.getElem?_cons_zero]; rfl) (by kernel_rfl) (by kernel_rfl) (by kernel_rfl) (by exact fun _ _ _ h => h) (Or.inl ⟨by kernel_rfl, ?yt187⟩) hHeld ?_
          case yt187 => (intro ww hSw; (try dsimp only at hSw); clear hSw; go_simp; try (with_reducible rfl))
          try simp only [Act.put, List.setIfInBounds_toArray, List.set_cons_zero, List.set_cons_succ]
          refine wpAnyH_done (by kernel_rfl) ?_ _
          go_wp2_with fail
          go_ret
          exact ⟨_, rfl, hfin, hb⟩
        · skip
          rw [if_pos (by kernel_rfl)]
          go_simp
          (with_reducible refine (Low_calls f.bits 4 _ (by omega) (by omega) (by omega)).mono ?_)
          rintro e wc89 ⟨v16, rfl, hrow, g88⟩
          replace q := box_ext q g88
          replace hs := Sl.ext hs g88
          replace hs4 := Sl.ext hs4 g88
          replace hs8 := Sl.ext hs8 g88
          replace hs12 := Sl.ext hs12 g88
          replace hb := hb.trans (g88.mono hb.size)
          clear g88
          rw [show (4 : Int).toNat = 4 from rfl] at hrow
          obtain ⟨A16, c16, b16, rfl, -, -, -, -, hs16, -⟩ := hrow.sl
          rw [low_length]
          clear hrow
          go_wp2_with fail
          refine hKK.out _ _ ?_ (fun hHeld => ?_)
          · exact q
          clear hKK KK
          try simp only [Act.put, List.setIfInBounds_toArray, List.set_cons_zero, List.set_cons_succ]
          refine wpAnyH_ready (rs := [0, 18]) (by kernel_rfl) (by simp) ?_
          refine AllReadyH.cons (by simp only [List.getElem?_toArray, List.getElem?_cons_zero]; rfl) (fun KK hKK => ?_) (AllReadyH.cons (by simp only [List.getElem?_toArray, List.getElem?_cons_succ, List.getElem?_cons_zero]; rfl) (fun KK hKK => ?_) AllReadyH.nil)
          · skip
            rw [if_pos (by kernel_rfl)]
            go_simp
            obtain ⟨wa90, hwa90⟩ : ∃ wa90, wa90 = wc89.alloc (.cells #[.int .u8 86] 5) := ⟨_, rfl⟩
            have h9 : Below wc89.heap.size wc89 wa90 := by rw [hwa90]; exact below_alloc1 _ _
            have qa : Sl wa90 wc89.heap.size (some ⟨wc89.heap.size, 0, none⟩) [.int .u8 86] := by rw [hwa90]; exact Sl.cells_new _ _ _
            rw [← hwa90]
            clear hwa90
            replace q := box_ext q h9
            replace hs := Sl.ext hs h9
            replace hs4 := Sl.ext hs4 h9
            replace hs8 := Sl.ext hs8 h9
            replace hs12 := Sl.ext hs12 h9
            replace hs16 := Sl.ext hs16 h9
            replace hb := hb.trans (h9.mono hb.size)
            clear h9
            refine hKK.out _ _ ?_ (fun hHeld => ?_)
            · exact q
            clear hKK KK
            try simp only [Act.put, List.setIfInBounds_toArray, List.set_cons_zero, List.set_cons_succ]
            refine wpAnyH_ready (rs := [18]) (by kernel_rfl) (by simp) ?_
            refine AllReadyH.cons (by simp only [List.getElem?_toArray, List.getElem?_cons_succ, List.getElem?_cons_zero]; rfl) (fun KK hKK => ?_) AllReadyH.nil
            rw [if_pos (by kernel_rfl)]
            go_simp
            (with_reducible refine (hF _).mono ?_)
            rintro e wc92 ⟨rfl, g91⟩
            replace q := box_ext q g91
            replace hs := Sl.ext hs g91
            replace hs4 := Sl.ext hs4 g91
            replace hs8 := Sl.ext hs8 g91
            replace hs12 := Sl.ext hs12 g91
            replace hs16 := Sl.ext hs16 g91
            replace qa := Sl.ext qa g91
            replace hb := hb.trans (g91.mono hb.size)
            clear g91
            go_wp2_with fail
            refine hKK.out _ _ ?_ (fun hHeld => ?_)
            · exact q
            clear hKK KK
            try simp only [Act.put, List.setIfInBounds_toArray, List.set_cons_zero, List.set_cons_succ]
            refine wpAnyH_ready (rs := [23]) (by kernel_rfl) (by simp) ?_
            refine AllReadyH.cons (by simp only [List.getElem?_toArray, List.getElem?_cons_succ, List.getElem?_cons_zero]; rfl) (fun KK hKK => ?_) AllReadyH.nil
            rw [if_pos (by kernel_rfl)]
            go_simp
            obtain ⟨wa93, hwa93⟩ : ∃ wa93, wa93 = wc92.alloc (.cells #[.int .u8 (f.marks : Int), .int .u8 (f.data.length : Int)] 5) := ⟨_, rfl⟩
            have h9 : Below wc92.heap.size wc92 wa93 := by rw [hwa93]; exact below_alloc1 _ _
            have qm : Sl wa93 wc92.heap.size (some ⟨wc92.heap.size, 0, none⟩) [.int .u8 (f.marks : Int), .int .u8 (f.data.length : Int)] := by rw [hwa93]; exact Sl.cells_new _ _ _
            rw [← hwa93]
            clear hwa93
            replace q := box_ext q h9
            replace hs := Sl.ext hs h9
            replace hs4 := Sl.ext hs4 h9
            replace hs8 := Sl.ext hs8 h9
            replace hs12 := Sl.ext hs12 h9
            replace hs16 := Sl.ext hs16 h9
            replace qa := Sl.ext qa h9
            replace hb := hb.trans (h9.mono hb.size)
            clear h9
            refine hKK.out _ _ ?_ (fun hHeld => ?_)
            · exact q
            clear hKK KK
            try simp only [Act.put, List.setIfInBounds_toArray, List.set_cons_zero, List.set_cons_succ]
            refine wpAnyH_ready (rs := [26]) (by kernel_rfl) (by simp) ?_
            refine AllReadyH.cons (by simp only [List.getElem?_toArray, List.getElem?_cons_succ, List.getElem?_cons_zero]; rfl) (fun KK hKK => ?_) AllReadyH.nil
            rw [if_pos (by kernel_rfl)]
            go_simp
            obtain ⟨wa94, hwa94⟩ : ∃ wa94, wa94 = wa93.alloc (.cells #[.slice (some ⟨wc89.heap.size, 0, none⟩) 1 1, .slice A4 2 c4, .slice A8 2 c8, .slice A12 2 c12, .slice A16 4 c16, .slice (some ⟨wc92.heap.size, 0, none⟩) 2 2, .slice A f.data.length c] 27) := ⟨_, rfl⟩
            have h9 : Below wa93.heap.size wa93 wa94 := by rw [hwa94]; exact below_alloc1 _ _
            have qz : Sl wa94 wa93.heap.size (some ⟨wa93.heap.size, 0, none⟩) [.slice (some ⟨wc89.heap.size, 0, none⟩) 1 1, .slice A4 2 c4, .slice A8 2 c8, .slice A12 2 c12, .slice A16 4 c16, .slice (some ⟨wc92.heap.size, 0, none⟩) 2 2, .slice A f.data.length c] := by rw [hwa94]; exact Sl.cells_new _ _ _
            rw [← hwa94]
            clear hwa94
            replace q := box_ext q h9
            replace hs := Sl.ext hs h9
            replace hs4 := Sl.ext hs4 h9
            replace hs8 := Sl.ext hs8 h9
            replace hs12 := Sl.ext hs12 h9
            replace hs16 := Sl.ext hs16 h9
            replace qa := Sl.ext qa h9
            replace qm := Sl.ext qm h9
            replace hb := hb.trans (h9.mono hb.size)
            clear h9
            refine hKK.out _ _ ?_ (fun hHeld => ?_)
            · exact q
            clear hKK KK
            try simp only [Act.put, List.setIfInBounds_toArray, List.set_cons_zero, List.set_cons_succ]
            refine wpAnyH_ready (rs := [27]) (by kernel_rfl) (by simp) ?_
            refine AllReadyH.cons (by simp only [List.getElem?_toArray, List.getElem?_cons_succ, List.getElem?_cons_zero]; rfl) (fun KK hKK => ?_) AllReadyH.nil
            rw [if_pos (by kernel_rfl)]
            have qa' : Bs wa94 (wc89.heap.size) (some ⟨wc89.heap.size, 0, none⟩) [86] := qa
            have qm' : Bs wa94 (wc92.heap.size) (some ⟨wc92.heap.size, 0, none⟩) [UInt8.ofNat f.marks, UInt8.ofNat f.data.length] := by have e : bv [UInt8.ofNat f.marks, UInt8.ofNat f.data.length] = [.int .u8 (f.marks : Int), .int .u8 (f.data.length : Int)] := (by simp only [bv, List.map_cons, List.map_nil, u8_ofNat]; rw [Int.emod_eq_of_lt (by omega) (by omega), Int.emod_eq_of_lt (by omega) (by omega)]); unfold Bs; rw [e]; exact qm
            go_simp
            (with_reducible refine (Join_calls _ [.slice (some ⟨wc89.heap.size, 0, none⟩) 1 1, .slice A4 2 c4, .slice A8 2 c8, .slice A12 2 c12, .slice A16 4 c16, .slice (some ⟨wc92.heap.size, 0, none⟩) 2 2, .slice A f.data.length c] [[86], low f.epoch 2, low f.seq 2, low f.next 2, low f.bits 4, [UInt8.ofNat f.marks, UInt8.ofNat f.data.length], f.data] 7 7 (wa93.heap.size) _ qz (Bss.cons qa' rfl (Bss.cons hs4 (low_length _ _) (Bss.cons hs8 (low_length _ _) (Bss.cons hs12 (low_length _ _) (Bss.cons hs16 (low_length _ _) (Bss.cons qm' rfl (Bss.cons hs rfl (Bss.nil_ _)))))))) rfl (by simp [maxLen]) (by rw [hParts.out]; have := HRL.out; omega)).mono ?_)
            rintro e wc96 ⟨vj, rfl, hrow, g95⟩
            replace q := box_ext q g95
            replace hs := Sl.ext hs g95
            replace hs4 := Sl.ext hs4 g95
            replace hs8 := Sl.ext hs8 g95
            replace hs12 := Sl.ext hs12 g95
            replace hs16 := Sl.ext hs16 g95
            replace qa := Sl.ext qa g95
            replace qm := Sl.ext qm g95
            replace qz := Sl.ext qz g95
            replace hb := hb.trans (g95.mono hb.size)
            clear g95
            rw [hParts.out] at hrow
            obtain ⟨Aj, cj, bj, rfl, -, -, -, -, hsj, -⟩ := hrow.sl
            clear hrow
            go_wp2_with fail
            refine hKK.out _ _ ?_ (fun hHeld => ?_)
            · exact q
            clear hKK KK
            try simp only [Act.put, List.setIfInBounds_toArray, List.set_cons_zero, List.set_cons_succ]
            refine wpAnyH_ready (rs := [28]) (by kernel_rfl) (by simp) ?_
            refine AllReadyH.cons (by simp only [List.getElem?_toArray, List.getElem?_cons_succ, List.getElem?_cons_zero]; rfl) (fun KK hKK => ?_) AllReadyH.nil
            rw [if_pos (by kernel_rfl)]
            have hb0 := hb.size
            go_simp
            (with_reducible refine (RefSeal_calls Aj f.raw f.raw.length cj bj _ hsj rfl (by have := HRL.out; omega)).mono ?_)
            rintro e wc98 ⟨vs, rfl, hfin, g97⟩
            replace q := box_ext q g97
            replace hs := Sl.ext hs g97
            replace hs4 := Sl.ext hs4 g97
            replace hs8 := Sl.ext hs8 g97
            replace hs12 := Sl.ext hs12 g97
            replace hs16 := Sl.ext hs16 g97
            replace qa := Sl.ext qa g97
            replace qm := Sl.ext qm g97
            replace qz := Sl.ext qz g97
            replace hsj := Sl.ext hsj g97
            replace hb := hb.trans (g97.mono hb.size)
            clear g97
            replace hfin := hfin.low hb0
            go_wp2_with fail
            refine hKK.out _ _ ?_ (fun hHeld => ?_)
            · exact q
            clear hKK KK
            try simp only [Act.put, List.setIfInBounds_toArray, List.set_cons_zero, List.set_cons_succ]
            refine wpAnyH_take (i := 29) (v := ?vt199) (by simp only [List.getElem?_toArray, List.getElem?_cons_succ, List.getElem?_cons_zero]; rfl) (by kernel_rfl) (by kernel_rfl) (by kernel_rfl) (by exact fun _ _ _ h => h) (Or.inl ⟨by kernel_rfl, ?yt199⟩) hHeld ?_
            case yt199 => (intro ww hSw; (try dsimp only at hSw); clear hSw; go_simp; try (with_reducible rfl))
            try simp only [Act.put, List.setIfInBounds_toArray, List.set_cons_zero, List.set_cons_succ]
            refine wpAnyH_done (by kernel_rfl) ?_ _
            go_wp2_with fail
            go_ret
            exact ⟨_, rfl, hfin, hb⟩
          · skip
            rw [if_pos (by kernel_rfl)]
            go_simp
            (with_reducible refine (hF _).mono ?_)
            rintro e wc101 ⟨rfl, g100⟩
            replace q := box_ext q g100
            replace hs := Sl.ext hs g100
            replace hs4 := Sl.ext hs4 g100
            replace hs8 := Sl.ext hs8 g100
            replace hs12 := Sl.ext hs12 g100
            replace hs16 := Sl.ext hs16 g100
            replace hb := hb.trans (g100.mono hb.size)
            clear g100
            go_wp2_with fail
            refine hKK.out _ _ ?_ (fun hHeld => ?_)
            · exact q
            clear hKK KK
            try simp only [Act.put, List.setIfInBounds_toArray, List.set_cons_zero, List.set_cons_succ]
            refine wpAnyH_ready (rs := [0, 23]) (by kernel_rfl) (by simp) ?_
            refine AllReadyH.cons (by simp only [List.getElem?_toArray, List.getElem?_cons_zero]; rfl) (fun KK hKK => ?_) (AllReadyH.cons (by simp only [List.getElem?_toArray, List.getElem?_cons_succ, List.getElem?_cons_zero]; rfl) (fun KK hKK => ?_) AllReadyH.nil)
            · skip
              rw [if_pos (by kernel_rfl)]
              go_simp
              obtain ⟨wa102, hwa102⟩ : ∃ wa102, wa102 = wc101.alloc (.cells #[.int .u8 86] 5) := ⟨_, rfl⟩
              have h9 : Below wc101.heap.size wc101 wa102 := by rw [hwa102]; exact below_alloc1 _ _
              have qa : Sl wa102 wc101.heap.size (some ⟨wc101.heap.size, 0, none⟩) [.int .u8 86] := by rw [hwa102]; exact Sl.cells_new _ _ _
              rw [← hwa102]
              clear hwa102
              replace q := box_ext q h9
              replace hs := Sl.ext hs h9
              replace hs4 := Sl.ext hs4 h9
              replace hs8 := Sl.ext hs8 h9
              replace hs12 := Sl.ext hs12 h9
              replace hs16 := Sl.ext hs16 h9
              replace hb := hb.trans (h9.mono hb.size)
              clear h9
              refine hKK.out _ _ ?_ (fun hHeld => ?_)
              · exact q
              clear hKK KK
              try simp only [Act.put, List.setIfInBounds_toArray, List.set_cons_zero, List.set_cons_succ]
              refine wpAnyH_ready (rs := [23]) (by kernel_rfl) (by simp) ?_
              refine AllReadyH.cons (by simp only [List.getElem?_toArray, List.getElem?_cons_succ, List.getElem?_cons_zero]; rfl) (fun KK hKK => ?_) AllReadyH.nil
              rw [if_pos (by kernel_rfl)]
              go_simp
              obtain ⟨wa103, hwa103⟩ : ∃ wa103, wa103 = wa102.alloc (.cells #[.int .u8 (f.marks : Int), .int .u8 (f.data.length : Int)] 5) := ⟨_, rfl⟩
              have h9 : Below wa102.heap.size wa102 wa103 := by rw [hwa103]; exact below_alloc1 _ _
              have qm : Sl wa103 wa102.heap.size (some ⟨wa102.heap.size, 0, none⟩) [.int .u8 (f.marks : Int), .int .u8 (f.data.length : Int)] := by rw [hwa103]; exact Sl.cells_new _ _ _
              rw [← hwa103]
              clear hwa103
              replace q := box_ext q h9
              replace hs := Sl.ext hs h9
              replace hs4 := Sl.ext hs4 h9
              replace hs8 := Sl.ext hs8 h9
              replace hs12 := Sl.ext hs12 h9
              replace hs16 := Sl.ext hs16 h9
              replace qa := Sl.ext qa h9
              replace hb := hb.trans (h9.mono hb.size)
              clear h9
              refine hKK.out _ _ ?_ (fun hHeld => ?_)
              · exact q
              clear hKK KK
              try simp only [Act.put, List.setIfInBounds_toArray, List.set_cons_zero, List.set_cons_succ]
              refine wpAnyH_ready (rs := [26]) (by kernel_rfl) (by simp) ?_
              refine AllReadyH.cons (by simp only [List.getElem?_toArray, List.getElem?_cons_succ, List.getElem?_cons_zero]; rfl) (fun KK hKK => ?_) AllReadyH.nil
              rw [if_pos (by kernel_rfl)]
              go_simp
              obtain ⟨wa104, hwa104⟩ : ∃ wa104, wa104 = wa103.alloc (.cells #[.slice (some ⟨wc101.heap.size, 0, none⟩) 1 1, .slice A4 2 c4, .slice A8 2 c8, .slice A12 2 c12, .slice A16 4 c16, .slice (some ⟨wa102.heap.size, 0, none⟩) 2 2, .slice A f.data.length c] 27) := ⟨_, rfl⟩
              have h9 : Below wa103.heap.size wa103 wa104 := by rw [hwa104]; exact below_alloc1 _ _
              have qz : Sl wa104 wa103.heap.size (some ⟨wa103.heap.size, 0, none⟩) [.slice (some ⟨wc101.heap.size, 0, none⟩) 1 1, .slice A4 2 c4, .slice A8 2 c8, .slice A12 2 c12, .slice A16 4 c16, .slice (some ⟨wa102.heap.size, 0, none⟩) 2 2, .slice A f.data.length c] := by rw [hwa104]; exact Sl.cells_new _ _ _
              rw [← hwa104]
              clear hwa104
              replace q := box_ext q h9
              replace hs := Sl.ext hs h9
              replace hs4 := Sl.ext hs4 h9
              replace hs8 := Sl.ext hs8 h9
              replace hs12 := Sl.ext hs12 h9
              replace hs16 := Sl.ext hs16 h9
              replace qa := Sl.ext qa h9
              replace qm := Sl.ext qm h9
              replace hb := hb.trans (h9.mono hb.size)
              clear h9
              refine hKK.out _ _ ?_ (fun hHeld => ?_)
              · exact q
              clear hKK KK
              try simp only [Act.put, List.setIfInBounds_toArray, List.set_cons_zero, List.set_cons_succ]
              refine wpAnyH_ready (rs := [27]) (by kernel_rfl) (by simp) ?_
              refine AllReadyH.cons (by simp only [List.getElem?_toArray, List.getElem?_cons_succ, List.getElem?_cons_zero]; rfl) (fun KK hKK => ?_) AllReadyH.nil
              rw [if_pos (by kernel_rfl)]
              have qa' : Bs wa104 (wc101.heap.size) (some ⟨wc101.heap.size, 0, none⟩) [86] := qa
              have qm' : Bs wa104 (wa102.heap.size) (some ⟨wa102.heap.size, 0, none⟩) [UInt8.ofNat f.marks, UInt8.ofNat f.data.length] := by have e : bv [UInt8.ofNat f.marks, UInt8.ofNat f.data.length] = [.int .u8 (f.marks : Int), .int .u8 (f.data.length : Int)] := (by simp only [bv, List.map_cons, List.map_nil, u8_ofNat]; rw [Int.emod_eq_of_lt (by omega) (by omega), Int.emod_eq_of_lt (by omega) (by omega)]); unfold Bs; rw [e]; exact qm
              go_simp
              (with_reducible refine (Join_calls _ [.slice (some ⟨wc101.heap.size, 0, none⟩) 1 1, .slice A4 2 c4, .slice A8 2 c8, .slice A12 2 c12, .slice A16 4 c16, .slice (some ⟨wa102.heap.size, 0, none⟩) 2 2, .slice A f.data.length c] [[86], low f.epoch 2, low f.seq 2, low f.next 2, low f.bits 4, [UInt8.ofNat f.marks, UInt8.ofNat f.data.length], f.data] 7 7 (wa103.heap.size) _ qz (Bss.cons qa' rfl (Bss.cons hs4 (low_length _ _) (Bss.cons hs8 (low_length _ _) (Bss.cons hs12 (low_length _ _) (Bss.cons hs16 (low_length _ _) (Bss.cons qm' rfl (Bss.cons hs rfl (Bss.nil_ _)))))))) rfl (by simp [maxLen]) (by rw [hParts.out]; have := HRL.out; omega)).mono ?_)
              rintro e wc106 ⟨vj, rfl, hrow, g105⟩
              replace q := box_ext q g105
              replace hs := Sl.ext hs g105
              replace hs4 := Sl.ext hs4 g105
              replace hs8 := Sl.ext hs8 g105
              replace hs12 := Sl.ext hs12 g105
              replace hs16 := Sl.ext hs16 g105
              replace qa := Sl.ext qa g105
              replace qm := Sl.ext qm g105
              replace qz := Sl.ext qz g105
              replace hb := hb.trans (g105.mono hb.size)
              clear g105
              rw [hParts.out] at hrow
              obtain ⟨Aj, cj, bj, rfl, -, -, -, -, hsj, -⟩ := hrow.sl
              clear hrow
              go_wp2_with fail
              refine hKK.out _ _ ?_ (fun hHeld => ?_)
              · exact q
              clear hKK KK
              try simp only [Act.put, List.setIfInBounds_toArray, List.set_cons_zero, List.set_cons_succ]
              refine wpAnyH_ready (rs := [28]) (by kernel_rfl) (by simp) ?_
              refine AllReadyH.cons (by simp only [List.getElem?_toArray, List.getElem?_cons_succ, List.getElem?_cons_zero]; rfl) (fun KK hKK => ?_) AllReadyH.nil
              rw [if_pos (by kernel_rfl)]
              have hb0 := hb.size
              go_simp
              (with_reducible refine (RefSeal_calls Aj f.raw f.raw.length cj bj _ hsj rfl (by have := HRL.out; omega)).mono ?_)
              rintro e wc108 ⟨vs, rfl, hfin, g107⟩
              replace q := box_ext q g107
              replace hs := Sl.ext hs g107
              replace hs4 := Sl.ext hs4 g107
              replace hs8 := Sl.ext hs8 g107
              replace hs12 := Sl.ext hs12 g107
              replace hs16 := Sl.ext hs16 g107
              replace qa := Sl.ext qa g107
              replace qm := Sl.ext qm g107
              replace qz := Sl.ext qz g107
              replace hsj := Sl.ext hsj g107
              replace hb := hb.trans (g107.mono hb.size)
              clear g107
              replace hfin := hfin.low hb0
              go_wp2_with fail
              refine hKK.out _ _ ?_ (fun hHeld => ?_)
              · exact q
              clear hKK KK
              try simp only [Act.put, List.setIfInBounds_toArray, List.set_cons_zero, List.set_cons_succ]
              refine wpAnyH_take (i := 29) (v := ?vt1109) (by simp only [List.getElem?_toArray, List.getElem?_cons_succ, List.getElem?_cons_zero]; rfl) (by kernel_rfl) (by kernel_rfl) (by kernel_rfl) (by exact fun _ _ _ h => h) (Or.inl ⟨by kernel_rfl, ?yt1109⟩) hHeld ?_
              case yt1109 => (intro ww hSw; (try dsimp only at hSw); clear hSw; go_simp; try (with_reducible rfl))
              try simp only [Act.put, List.setIfInBounds_toArray, List.set_cons_zero, List.set_cons_succ]
              refine wpAnyH_done (by kernel_rfl) ?_ _
              go_wp2_with fail
              go_ret
              exact ⟨_, rfl, hfin, hb⟩
            · skip
              rw [if_pos (by kernel_rfl)]
              go_simp
              obtain ⟨wa110, hwa110⟩ : ∃ wa110, wa110 = wc101.alloc (.cells #[.int .u8 (f.marks : Int), .int .u8 (f.data.length : Int)] 5) := ⟨_, rfl⟩
              have h9 : Below wc101.heap.size wc101 wa110 := by rw [hwa110]; exact below_alloc1 _ _
              have qm : Sl wa110 wc101.heap.size (some ⟨wc101.heap.size, 0, none⟩) [.int .u8 (f.marks : Int), .int .u8 (f.data.length : Int)] := by rw [hwa110]; exact Sl.cells_new _ _ _
              rw [← hwa110]
              clear hwa110
              replace q := box_ext q h9
              replace hs := Sl.ext hs h9
              replace hs4 := Sl.ext hs4 h9
              replace hs8 := Sl.ext hs8 h9
              replace hs12 := Sl.ext hs12 h9
              replace hs16 := Sl.ext hs16 h9
              replace hb := hb.trans (h9.mono hb.size)
              clear h9
              refine hKK.out _ _ ?_ (fun hHeld => ?_)
              · exact q
              clear hKK KK
              try simp only [Act.put, List.setIfInBounds_toArray, List.set_cons_zero, List.set_cons_succ]
              refine wpAnyH_ready (rs := [0]) (by kernel_rfl) (by simp) ?_
              refine AllReadyH.cons (by simp only [List.getElem?_toArray, List.getElem?_cons_zero]; rfl) (fun KK hKK => ?_) AllReadyH.nil
              rw [if_pos (by kernel_rfl)]
              go_simp
              obtain ⟨wa111, hwa111⟩ : ∃ wa111, wa111 = wa110.alloc (.cells #[.int .u8 86] 5) := ⟨_, rfl⟩
              have h9 : Below wa110.heap.size wa110 wa111 := by rw [hwa111]; exact below_alloc1 _ _
              have qa : Sl wa111 wa110.heap.size (some ⟨wa110.heap.size, 0, none⟩) [.int .u8 86] := by rw [hwa111]; exact Sl.cells_new _ _ _
              rw [← hwa111]
              clear hwa111
              replace q := box_ext q h9
              replace hs := Sl.ext hs h9
              replace hs4 := Sl.ext hs4 h9
              replace hs8 := Sl.ext hs8 h9
              replace hs12 := Sl.ext hs12 h9
              replace hs16 := Sl.ext hs16 h9
              replace qm := Sl.ext qm h9
              replace hb := hb.trans (h9.mono hb.size)
              clear h9
              refine hKK.out _ _ ?_ (fun hHeld => ?_)
              · exact q
              clear hKK KK
              try simp only [Act.put, List.setIfInBounds_toArray, List.set_cons_zero, List.set_cons_succ]
              refine wpAnyH_ready (rs := [26]) (by kernel_rfl) (by simp) ?_
              refine AllReadyH.cons (by simp only [List.getElem?_toArray, List.getElem?_cons_succ, List.getElem?_cons_zero]; rfl) (fun KK hKK => ?_) AllReadyH.nil
              rw [if_pos (by kernel_rfl)]
              go_simp
              obtain ⟨wa112, hwa112⟩ : ∃ wa112, wa112 = wa111.alloc (.cells #[.slice (some ⟨wa110.heap.size, 0, none⟩) 1 1, .slice A4 2 c4, .slice A8 2 c8, .slice A12 2 c12, .slice A16 4 c16, .slice (some ⟨wc101.heap.size, 0, none⟩) 2 2, .slice A f.data.length c] 27) := ⟨_, rfl⟩
              have h9 : Below wa111.heap.size wa111 wa112 := by rw [hwa112]; exact below_alloc1 _ _
              have qz : Sl wa112 wa111.heap.size (some ⟨wa111.heap.size, 0, none⟩) [.slice (some ⟨wa110.heap.size, 0, none⟩) 1 1, .slice A4 2 c4, .slice A8 2 c8, .slice A12 2 c12, .slice A16 4 c16, .slice (some ⟨wc101.heap.size, 0, none⟩) 2 2, .slice A f.data.length c] := by rw [hwa112]; exact Sl.cells_new _ _ _
              rw [← hwa112]
              clear hwa112
              replace q := box_ext q h9
              replace hs := Sl.ext hs h9
              replace hs4 := Sl.ext hs4 h9
              replace hs8 := Sl.ext hs8 h9
              replace hs12 := Sl.ext hs12 h9
              replace hs16 := Sl.ext hs16 h9
              replace qm := Sl.ext qm h9
              replace qa := Sl.ext qa h9
              replace hb := hb.trans (h9.mono hb.size)
              clear h9
              refine hKK.out _ _ ?_ (fun hHeld => ?_)
              · exact q
              clear hKK KK
              try simp only [Act.put, List.setIfInBounds_toArray, List.set_cons_zero, List.set_cons_succ]
              refine wpAnyH_ready (rs := [27]) (by kernel_rfl) (by simp) ?_
              refine AllReadyH.cons (by simp only [List.getElem?_toArray, List.getElem?_cons_succ, List.getElem?_cons_zero]; rfl) (fun KK hKK => ?_) AllReadyH.nil
              rw [if_pos (by kernel_rfl)]
              have qa' : Bs wa112 (wa110.heap.size) (some ⟨wa110.heap.size, 0, none⟩) [86] := qa
              have qm' : Bs wa112 (wc101.heap.size) (some ⟨wc101.heap.size, 0, none⟩) [UInt8.ofNat f.marks, UInt8.ofNat f.data.length] := by have e : bv [UInt8.ofNat f.marks, UInt8.ofNat f.data.length] = [.int .u8 (f.marks : Int), .int .u8 (f.data.length : Int)] := (by simp only [bv, List.map_cons, List.map_nil, u8_ofNat]; rw [Int.emod_eq_of_lt (by omega) (by omega), Int.emod_eq_of_lt (by omega) (by omega)]); unfold Bs; rw [e]; exact qm
              go_simp
              (with_reducible refine (Join_calls _ [.slice (some ⟨wa110.heap.size, 0, none⟩) 1 1, .slice A4 2 c4, .slice A8 2 c8, .slice A12 2 c12, .slice A16 4 c16, .slice (some ⟨wc101.heap.size, 0, none⟩) 2 2, .slice A f.data.length c] [[86], low f.epoch 2, low f.seq 2, low f.next 2, low f.bits 4, [UInt8.ofNat f.marks, UInt8.ofNat f.data.length], f.data] 7 7 (wa111.heap.size) _ qz (Bss.cons qa' rfl (Bss.cons hs4 (low_length _ _) (Bss.cons hs8 (low_length _ _) (Bss.cons hs12 (low_length _ _) (Bss.cons hs16 (low_length _ _) (Bss.cons qm' rfl (Bss.cons hs rfl (Bss.nil_ _)))))))) rfl (by simp [maxLen]) (by rw [hParts.out]; have := HRL.out; omega)).mono ?_)
              rintro e wc114 ⟨vj, rfl, hrow, g113⟩
              replace q := box_ext q g113
              replace hs := Sl.ext hs g113
              replace hs4 := Sl.ext hs4 g113
              replace hs8 := Sl.ext hs8 g113
              replace hs12 := Sl.ext hs12 g113
              replace hs16 := Sl.ext hs16 g113
              replace qm := Sl.ext qm g113
              replace qa := Sl.ext qa g113
              replace qz := Sl.ext qz g113
              replace hb := hb.trans (g113.mono hb.size)
              clear g113
              rw [hParts.out] at hrow
              obtain ⟨Aj, cj, bj, rfl, -, -, -, -, hsj, -⟩ := hrow.sl
              clear hrow
              go_wp2_with fail
              refine hKK.out _ _ ?_ (fun hHeld => ?_)
              · exact q
              clear hKK KK
              try simp only [Act.put, List.setIfInBounds_toArray, List.set_cons_zero, List.set_cons_succ]
              refine wpAnyH_ready (rs := [28]) (by kernel_rfl) (by simp) ?_
              refine AllReadyH.cons (by simp only [List.getElem?_toArray, List.getElem?_cons_succ, List.getElem?_cons_zero]; rfl) (fun KK hKK => ?_) AllReadyH.nil
              rw [if_pos (by kernel_rfl)]
              have hb0 := hb.size
              go_simp
              (with_reducible refine (RefSeal_calls Aj f.raw f.raw.length cj bj _ hsj rfl (by have := HRL.out; omega)).mono ?_)
              rintro e wc116 ⟨vs, rfl, hfin, g115⟩
              replace q := box_ext q g115
              replace hs := Sl.ext hs g115
              replace hs4 := Sl.ext hs4 g115
              replace hs8 := Sl.ext hs8 g115
              replace hs12 := Sl.ext hs12 g115
              replace hs16 := Sl.ext hs16 g115
              replace qm := Sl.ext qm g115
              replace qa := Sl.ext qa g115
              replace qz := Sl.ext qz g115
              replace hsj := Sl.ext hsj g115
              replace hb := hb.trans (g115.mono hb.size)
              clear g115
              replace hfin := hfin.low hb0
              go_wp2_with fail
              refine hKK.out _ _ ?_ (fun hHeld => ?_)
              · exact q
              clear hKK KK
              try simp only [Act.put, List.setIfInBounds_toArray, List.set_cons_zero, List.set_cons_succ]
              refine wpAnyH_take (i := 29) (v := ?vt1117) (by simp only [List.getElem?_toArray, List.getElem?_cons_succ, List.getElem?_cons_zero]; rfl) (by kernel_rfl) (by kernel_rfl) (by kernel_rfl) (by exact fun _ _ _ h => h) (Or.inl ⟨by kernel_rfl, ?yt1117⟩) hHeld ?_
              case yt1117 => (intro ww hSw; (try dsimp only at hSw); clear hSw; go_simp; try (with_reducible rfl))
              try simp only [Act.put, List.setIfInBounds_toArray, List.set_cons_zero, List.set_cons_succ]
              refine wpAnyH_done (by kernel_rfl) ?_ _
              go_wp2_with fail
              go_ret
              exact ⟨_, rfl, hfin, hb⟩
end Go.Proofs.Ytbkimknfhpbcfaa
