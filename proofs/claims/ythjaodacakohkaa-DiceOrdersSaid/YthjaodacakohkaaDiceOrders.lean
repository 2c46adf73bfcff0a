/- DiceOrders: for every state and list the Go text returns true: cards that are shuffled by the same dice go where the places tell. No condition. -/
import Derived.Test.YthjaodacakohkaaShuffle
import Derived.Deep.RegionHeld3
namespace Go.Proofs.Ythjaodacakohkaa
open Go.RowKit

/-- Places that count up, the first j of K laid. -/
def places (K j : Nat) : List Int := (List.range j).map (fun i : Nat => (i : Int)) ++ List.replicate (K - j) 0
theorem places_length {K j : Nat} (h : j ≤ K) : (places K j).length = K := by simp [places]; omega
theorem places_get {K j : Nat} (h : j < K) : (places K j)[j]'(by rw [places_length (Nat.le_of_lt h)]; exact h) = 0 := by
  simp [places, List.getElem_append_right]
theorem places_set {K j : Nat} (h : j < K) : (places K j).set j (j : Int) = places K (j + 1) := by
  obtain ⟨r, hr⟩ : ∃ r, K - j = r + 1 := ⟨K - j - 1, by omega⟩
  have hr2 : K - (j + 1) = r := by omega
  unfold places
  rw [hr, hr2, List.set_append_right _ _ (by simp), List.range_succ]
  simp [List.replicate_succ]
theorem made_places (K : Nat) : (madeCells (Value.int .i32 0).cells (K * 1)).toList = iv (places K 0) := by
  simp [madeCells, places, iv, Value.cells]
  apply List.ext_getElem?
  intro i
  simp [List.getElem?_replicate]
  by_cases h : i < K <;> simp [h, Nat.mod_one]
theorem orders_plain {s K : Nat} {p at_ out : List Int} (hp : p.length = K) (ha : at_ = (shufN (K - 1) s (places K K)).1) (ho : out = (shufN (K - 1) s p).1) :
    ∀ i, i < K → ∃ (x : Nat) (y : Int), at_[i]? = some (x : Int) ∧ x < K ∧ out[i]? = some y ∧ p[x]? = some y := by
  intro i hi
  have hpl : places K K = (List.range K).map (fun i : Nat => (i : Int)) := by simp [places]
  have hpp : p = (List.range K).map (fun i => p.getD i 0) := by
    apply List.ext_getElem?
    intro j
    by_cases hj : j < K
    · simp [List.getElem?_range hj, List.getD, List.getElem?_eq_getElem (show j < p.length by omega)]
    · rw [List.getElem?_eq_none (by omega), List.getElem?_eq_none (by simp; omega)]
  obtain ⟨r, hr⟩ : ∃ r, r = (shufN (K - 1) s (List.range K)).1 := ⟨_, rfl⟩
  have h1 : at_ = r.map (fun i : Nat => (i : Int)) := by rw [ha, hpl, shufN_map, hr]
  have h2 : out = r.map (fun i => p.getD i 0) := by rw [ho]; conv => lhs; rw [hpp]
                                                    rw [shufN_map, hr]
  have hperm : r.Perm (List.range K) := by rw [hr]; exact shufN_perm _ _ _
  have hrl : r.length = K := by rw [hperm.length_eq, List.length_range]
  have hrk : r[i]'(by omega) < K := List.mem_range.1 (hperm.subset (List.getElem_mem _))
  refine ⟨r[i]'(by omega), p.getD (r[i]'(by omega)) 0, ?_, hrk, ?_, ?_⟩
  · rw [h1, List.getElem?_map, List.getElem?_eq_getElem (by omega)]
    rfl
  · rw [h2, List.getElem?_map, List.getElem?_eq_getElem (by omega)]
    rfl
  · rw [List.getD_eq_getElem?_getD, List.getElem?_eq_getElem (show r[i]'(by omega) < p.length by omega)]
    rfl
theorem Shuffle_named (s : Nat) (A : Option Addr) (l out : List Int) (n c b T : Nat) (hT : T = goesN s (n - 1)) (ho : out = (shufN (n - 1) s l).1) (h64 : s < 18446744073709551616) (hn : l.length = n) (hl : n ≤ 1000) (w : World) (hs : Is w b A l) :
    Calls Try.prog 15 #[diceV s, .slice A n c] w fun e w' => ∃ v, e = .returned (.tuple #[v, diceV T]) ∧ w'.ownsRow w.heap.size 21 1 v n (iv out) ∧ Below w.heap.size w w' := by
  refine (Shuffle_calls s A l n c b w hs hn hl).mono ?_
  rintro e w' ⟨v, rfl, hr, hb⟩
  refine ⟨v, by rw [shufN_state _ _ _ h64, hT], ?_, hb⟩
  have := hr
  unfold Row32 at this
  rw [shufN_length, hn] at this
  rw [ho]
  exact this
theorem own_is {w : World} {B n c g : Nat} {e : TypeId} {xs : List Value} (h : w.ownsRow B e 1 (.slice (some ⟨g, 0, none⟩) n c) n xs) : Sl w g (some ⟨g, 0, none⟩) xs := fun _ =>
  ⟨0, rfl, fun j u hu => by
    have := h.cells (g := g) rfl j u hu
    simpa [Addr.add_lit] using this⟩
set_option maxHeartbeats 4000000 in
set_option maxRecDepth 20000 in
theorem DiceOrders_walk (s : Nat) (A : Option Addr) (l : List Int) (n c b : Nat) (w : World) (hs64 : s ≤ 18446744073709551615) (hs : Is w b A l) (hn : l.length = n) (_hnm : n ≤ maxLen) (hnc : n ≤ c) :
    Calls Try.prog 8 #[.int .u64 s, .slice A n c] w fun e w' => e = .returned (.bool true) ∧ Below w.heap.size w w' := by
  have HN := Lib.hid hn
  obtain ⟨K, hK⟩ : ∃ K, K = min n 60 := ⟨_, rfl⟩
  have hK60 : K ≤ 60 := by omega
  have hKn : K ≤ n := by omega
  have hmin : (if 60 < n then (60 : Int) else (n : Int)) = (K : Int) := by split <;> omega
  have hmin2 : (if (60 : Int) < (n : Int) then (60 : Int) else (n : Int)) = (K : Int) := by split <;> omega
  have hKc : (K : Int) ≤ (c : Int) := by omega
  clear hK hn

  go_enter Try.func8, Try.ntmps8
  go_wp2_with fail
  refine (awake_calls _).mono ?_
  rintro e w1 ⟨rfl, hb1⟩
  have hs1 := Sl.ext hs hb1
  clear hs
  have hsK : Is (w1.alloc (.cells #[] 21)) b A (l.take K) := by have := Sl.take (hs1.alloc (.cells #[] 21)) K; rwa [iv_take] at this
  have hpl : (l.take K).length = K := by rw [List.length_take, HN.out]; omega
  obtain ⟨p, hp⟩ : ∃ p, p = l.take K := ⟨_, rfl⟩
  rw [← hp] at hsK hpl
  have HP := Lib.hid hpl
  have ho0 : (w1.alloc (.cells #[] 21)).ownsRow w1.heap.size 21 1 (.slice (some ⟨w1.heap.size, 0, none⟩) 0 0) 0 (iv []) := World.ownsRow_made w1 #[] 0 (Nat.le_refl _) (by simp [maxLen]) rfl
  have hb2 := hb1.alloc hb1.size (.cells #[] 21)
  have hB := hb1.size
  have hno : ∀ i, (Value.slice (some ⟨w1.heap.size, 0, none⟩) 0 0).ownBlock = some i → w.heap.size ≤ i := by
    intro i hi
    simp [Value.ownBlock] at hi
    omega
  clear hp hpl hs1 hb1
  go_wp2_with (at_builtin; (refine wpList_app32 (w1.alloc (.cells #[] 21)) rfl (.tmp 16) (.tmp 21) rfl w1.heap.size (.slice (some ⟨w1.heap.size, 0, none⟩) 0 0) [] rfl ho0 b A K c p rfl hsK HP.out (by simp; omega) (by simp) ?_); intro v2 w2 hrow2 hmod2 hown2; have hb3 : Below w.heap.size w w2 := hb2.trans (hmod2.below hb2.size (fun i hi h => Nat.not_le_of_lt hi (hno i h))); have hr2 : w2.ownsRow w1.heap.size 21 1 v2 p.length (iv p) := hrow2.cast (List.nil_append _); clear hrow2 hmod2 hown2 hb2 hsK ho0; rw [HP.out] at hr2; obtain ⟨A2, c2, b2, hv, hc2, hB2, hs2⟩ := own_sl hr2; subst hv)
  obtain ⟨i0, hi0, hz0, hz1, hz2⟩ := info_parts i32_info
  obtain ⟨w3, hmk, hrow3, hg3⟩ := run_make_full (P := Try.prog) w2 w2.heap.size 34 21 i0 _ 1 Try.underlying34 hi0 hz0 hz1 .i64 .i64 K (by rw [hz2]; omega) (by simp only [maxLen]; omega) (Nat.le_refl _)
  have hm3 := Mod.of_grown hg3
  have hb4 : Below w2.heap.size w2 w3 := hm3.below (Nat.le_refl _) (fun i _ h => by cases h)
  rw [made_places] at hrow3
  rw [hmk]
  simp only [Result.andThen_ok]
  clear hmk hg3 hm3 hi0 hz0 hz1 hz2
  go_wp2_with fail
  go_loopw [28] (fun i wr => ∃ j : Nat, j ≤ K ∧ i = .int .i64 j ∧ wr.ownsRow w2.heap.size 21 1 (.slice (some ⟨w2.heap.size, 0, none⟩) K K) K (iv (places K j)) ∧ Below w2.heap.size w2 wr) (fun i _ => K - (intOf i).toNat)
  case atStart => exact ⟨0, Nat.zero_le _, rfl, hrow3, hb4⟩
  case round =>
    obtain ⟨j, hj, rfl, hr, hb⟩ := hrel
    clear hrow3 hb4
    by_cases hlt : j < K
    · obtain ⟨g, cap, hv, _, _, _, hcell, hfr, _⟩ := own_set hr (by omega)
      injection hv with hA _ _
      injection hA with hA
      injection hA with hA _ _
      subst hA
      have hcj := hcell j (.int .i32 0) (by rw [iv_get _ _ (by rw [places_length hj]; exact hlt), places_get hlt])
      have hfj := hfr j
      have HR := Lib.hid (own_set2 (by omega) hr j (.int .i32 (j : Int)))
      clear hcell hfr
      go_wp2_with fail
      go_roundw
      case rel => exact ⟨j + 1, by omega, by go_num, by rw [← places_set hlt, ← iv_set]; exact HR.out, hb.setCell (Nat.le_refl _) _⟩
      case measure => simp [intOf]; omega
    · obtain rfl : K = j := by omega
      have hs3 := Sl.ext hs2 hb
      have hbw := hb3.trans (hb.mono hb3.size)
      have hz2 := hb.size
      have hz1 := hb3.size
      obtain ⟨A5, c5, b5, hv5, _, _, hs5⟩ := own_sl hr
      injection hv5 with hA5 _ hc5
      have hs5' : Is wr w2.heap.size (some ⟨w2.heap.size, 0, none⟩) (places K K) := own_is hr
      clear hr hb hb3 hs2 hs5 hA5 hc5 hlt
      have hlp : (places K K).length = K := places_length (Nat.le_refl _)
      have HLP := Lib.hid hlp
      clear hlp
      go_wp2_with fail
      have m0 := Box.new_ wr (.int .u64 (s : Int)) 26
      have hx := below_alloc1 wr (.cells #[.int .u64 (s : Int)] 26)
      have mb := hbw.trans (hx.mono (Nat.le_trans hz1 hz2))
      have ms := Sl.ext hs3 hx
      have mp := Sl.ext hs5' hx
      obtain ⟨T, hT⟩ : ∃ T, T = goesN s (K - 1) := ⟨_, rfl⟩
      obtain ⟨at_, hat⟩ : ∃ x, x = (shufN (K - 1) s (places K K)).1 := ⟨_, rfl⟩
      obtain ⟨out, hout⟩ : ∃ x, x = (shufN (K - 1) s p).1 := ⟨_, rfl⟩
      have hS1 := Shuffle_named s (some ⟨w2.heap.size, 0, none⟩) (places K K) at_ K K w2.heap.size T hT hat (by omega) HLP.out (by omega)
      have hS2 := Shuffle_named s A2 p out K c2 b2 T hT hout (by omega) HP.out (by omega)
      have HT := Lib.hid hT
      have hgo : ∀ i (hi : i < K), ∃ (x : Nat) (y : Int), at_[i]? = some (x : Int) ∧ x < K ∧ out[i]? = some y ∧ p[x]? = some y := orders_plain HP.out hat hout
      have HG := Lib.hid hgo
      clear hT hat hout hgo
      refine (hS1 _ mp).mono ?_
      rintro e w6 ⟨v6, rfl, hr6, hb6⟩
      have q0 := (m0.ext hb6).alloc (.cells #[.int .u64 (T : Int)] 26)
      have q1 := Box.new_ w6 (.int .u64 (T : Int)) 26
      have qs := Sl.alloc (Sl.ext ms hb6) (.cells #[.int .u64 (T : Int)] 26)
      have qb := (mb.trans (hb6.mono mb.size)).alloc (Nat.le_trans mb.size hb6.size) (.cells #[.int .u64 (T : Int)] 26)
      obtain ⟨A6, c6, b6, hv6, hc6, hB6, hs6⟩ := own_sl hr6
      subst hv6
      have qa := Sl.alloc hs6 (.cells #[.int .u64 (T : Int)] 26)
      have qc := q0.cell
      clear hbw hs3 hs5' m0 hx mb ms mp hb6 hr6 hS1 hs6
      go_wp2_with fail
      refine (hS2 _ qs).mono ?_
      rintro e w7 ⟨v7, rfl, hr7, hb7⟩
      have p0 := (q0.ext hb7).alloc (.cells #[.int .u64 (T : Int)] 26)
      have p1 := (q1.ext hb7).alloc (.cells #[.int .u64 (T : Int)] 26)
      have p2 := Box.new_ w7 (.int .u64 (T : Int)) 26
      have ps := Sl.alloc (Sl.ext qs hb7) (.cells #[.int .u64 (T : Int)] 26)
      have pa := Sl.alloc (Sl.ext qa hb7) (.cells #[.int .u64 (T : Int)] 26)
      have pb := (qb.trans (hb7.mono qb.size)).alloc (Nat.le_trans qb.size hb7.size) (.cells #[.int .u64 (T : Int)] 26)
      obtain ⟨A7, c7, b7, hv7, hc7, hB7, hs7⟩ := own_sl hr7
      subst hv7
      have po := Sl.alloc hs7 (.cells #[.int .u64 (T : Int)] 26)
      obtain ⟨W, hW⟩ : ∃ W, W = w7.alloc (.cells #[.int .u64 (T : Int)] 26) := ⟨_, rfl⟩
      rw [← hW] at p0 p1 p2 ps pa pb po
      have HW := Lib.hid hW
      clear q0 q1 qs qb qa qc hr7 hb7 hS2 hs7 hW
      go_wp2_with fail
      rw [← HW.out]
      clear HW
      go_loopw [53] (fun i wr => ∃ (j d : Nat), j ≤ K ∧ i = .int .i64 j ∧ wr = W.drewN d) (fun i _ => K - (intOf i).toNat)
      case atStart => exact ⟨0, 0, Nat.zero_le _, rfl, rfl⟩
      case round =>
        obtain ⟨j, d, hj, rfl, rfl⟩ := hrel
        by_cases hlt : j < K
        · obtain ⟨x, y, hx1, hx2, hx3, hx4⟩ := HG.out j hlt
          obtain ⟨oa, rfl, ca⟩ := pa (by intro h0; simp [iv] at h0; rw [h0] at hx1; simp at hx1)
          obtain ⟨oo, rfl, co⟩ := po (by intro h0; simp [iv] at h0; rw [h0] at hx3; simp at hx3)
          obtain ⟨op, rfl, cp⟩ := ps (by intro h0; simp [iv] at h0; rw [h0] at hx4; simp at hx4)
          have da := ca j (.int .i32 (x : Int)) (by simp [iv, hx1])
          have do_ := co j (.int .i32 y) (by simp [iv, hx3])
          have dp := cp x (.int .i32 y) (by simp [iv, hx4])
          have e1 : (x : Int) < (K : Int) := by omega
          have e2 : (j : Int) < (K : Int) := by omega
          have e3 : (0 : Int) ≤ (x : Int) := by omega
          clear ca co cp hx1 hx3 hx4
          go_wp2_with fail
          go_quiet (fail)
          go_wp2_with fail
          go_roundw
          case rel => exact ⟨j + 1, _, by omega, by go_num, rfl⟩
          case measure => simp [intOf]; omega
        · go_wp2_with fail
          have hK1 := Skip_calls s ((K - 1 : Nat) : Int)
          rw [Int.toNat_natCast, ← HT.out] at hK1
          obtain ⟨R, hR⟩ : ∃ R, R = K - 1 := ⟨_, rfl⟩
          rw [← hR] at hK1
          have hw0 : IntKind.i64.wrap ((K : Int) - 1) = (K : Int) - 1 := IntWalk.i64_in _ (by omega)
          have hmax1 : (if (K : Int) - 1 < 0 then (0 : Int) else (K : Int) - 1) = (R : Int) := by split <;> omega
          have hmax2 : (if 0 ≤ (K : Int) - 1 then (K : Int) - 1 else (0 : Int)) = (R : Int) := by split <;> omega
          have hmax3 : (if (K : Int) - 1 ≤ 0 then (0 : Int) else (K : Int) - 1) = (R : Int) := by split <;> omega
          have hmax4 : (if 0 < (K : Int) - 1 then (K : Int) - 1 else (0 : Int)) = (R : Int) := by split <;> omega
          have hR60 : R ≤ 60 := by omega
          have hC := hK1
          have c0 := (p0.drewN d).cell
          have c1 := (p1.drewN d).cell
          have c2 := (p2.drewN d).cell
          have l0 := p0.lt
          have l1 := p1.lt
          have l2 := p2.lt
          have bb := below_drew (below_drewN pb d)
          have hS : (W.drewN d).cell? ⟨wr.heap.size, 0, none⟩ = some (.int .u64 (s : Int)) ∧ (W.drewN d).cell? ⟨w6.heap.size, 0, none⟩ = some (.int .u64 (T : Int)) ∧ (W.drewN d).cell? ⟨w7.heap.size, 0, none⟩ = some (.int .u64 (T : Int)) := ⟨c0, c1, c2⟩
          clear hK1 hR c0 c1 c2 p0 p1 p2 pb pa po ps HG
          go_region_held3 (fun w' => w'.cell? ⟨wr.heap.size, 0, none⟩ = some (.int .u64 (s : Int)) ∧ w'.cell? ⟨w6.heap.size, 0, none⟩ = some (.int .u64 (T : Int)) ∧ w'.cell? ⟨w7.heap.size, 0, none⟩ = some (.int .u64 (T : Int))) (first | exact hS | exact hS8)
            (first
              | (go_at_call 19; ((refine (hC _ (by omega) (by omega)).mono ?_); rintro e w8 ⟨rfl, hb⟩; have hS8 := And.intro ((hb.cell (p := ⟨wr.heap.size, 0, none⟩) l0).trans hS.1) (And.intro ((hb.cell (p := ⟨w6.heap.size, 0, none⟩) l1).trans hS.2.1) ((hb.cell (p := ⟨w7.heap.size, 0, none⟩) l2).trans hS.2.2)); have bb := bb.trans (hb.mono bb.size); clear hb)))
          go_wp2_with fail
          go_ret
          exact ⟨rfl, bb⟩
end Go.Proofs.Ythjaodacakohkaa
