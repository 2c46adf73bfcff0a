/- OrderNotes: the walk, where the numbers come near Next. Conditions: the table lies as the library lays it; the numbers fit. -/
import Derived.Test.YtdkfmgadipfipaaDoorOrderNotesA
namespace Go.Proofs.YtdkfmgadipfipaaDoor
open Go.RowKit

set_option maxHeartbeats 8000000 in
set_option maxRecDepth 20000 in
theorem OrderNotes_false (next bits : Nat) (A : Option Addr) (l : List Nat) (n c b : Nat) (w : World) (hTab : Tab w) (hx0 : next < 65536) (hy0 : bits < 4294967296) (hs : Sl w b A (us l)) (hn : l.length = n) (h16 : ∀ y ∈ l, y < 65536) :
    Calls Tryd.prog 4 #[.int .u16 next, .int .u32 bits, .slice A n c, .bool false] w fun e w' => e = .returned (.bool true) ∧ Below w.heap.size w w' := by
  have HN := Lib.hid hn
  have H16 := Lib.hid h16
  have hO := fun W => RefOf_calls next bits W hy0
  clear hn h16
  go_enter Tryd.func4, Tryd.ntmps4
  go_wp2_with fail
  refine (Awake_calls _ hTab).mono ?_
  rintro e w1 ⟨rfl, hb1⟩
  have s1 := below_alloc1 w1 (.cells #[.int .u16 (next : Int), .int .u32 (bits : Int)] 34)
  have hb2 := hb1.trans (s1.mono hb1.size)
  have t2 := Tab.ext hTab hb2
  have q0 := Box2.new_ w1 (.int .u16 (next : Int)) (.int .u32 (bits : Int))
  have hs2 := Sl.ext hs hb2
  have t1 := Tab.ext hTab hb1
  have hs1 := Sl.ext hs hb1
  have hz := hb1.size
  clear hTab hs hb1 s1
  go_wp2_with fail
  refine (hO _).mono ?_
  rintro e w2 ⟨rfl, hb3⟩
  clear hO
  go_wp2_with fail
  rw [BoxR.made]
  simp only [Result.andThen_ok]
  have s3 := below_alloc1 w2 (.cells (raF next bits.testBit) 37)
  have hz12 : w1.heap.size < w2.heap.size := (q0.ext hb3).lt
  have q0 := (q0.ext hb3).alloc (.cells (raF next bits.testBit) 37)
  have q1 := BoxR.new_ w2 next bits.testBit
  have t3 := Tab.ext (Tab.ext t2 hb3) s3
  have hs3 := Sl.ext (Sl.ext hs2 hb3) s3
  have hb4 := hb2.trans (hb3.mono hb2.size)
  have hb4 := hb4.trans (s3.mono hb4.size)
  have hz2 := Nat.le_trans hb2.size hb3.size
  have hne : w1.heap.size ≠ w2.heap.size := by
    have h1 := hb3.size
    simp at h1
    omega
  have HTW : Hid (∀ u u', Tab u → Below w1.heap.size u u' → Tab u') := Lib.hid (fun u u' h hb => Tab.below1 t1 h hb)
  have HSW : Hid (∀ u u', Sl u b A (us l) → Below w1.heap.size u u' → Sl u' b A (us l)) := Lib.hid (fun u u' h hb => Sl.below1 hs1 h hb)
  clear t2 hs2 hb2 hb3 s3 t1 hs1
  go_wp2_with fail
  go_loopw [31] (fun i wr => ∃ (j x y : Nat), j ≤ n ∧ j ≤ 80 ∧ i = .int .i64 j ∧ x < 65536 ∧ y < 4294967296 ∧ NSt w w1.heap.size w2.heap.size x y b A (us l) wr) (fun i _ => n - (intOf i).toNat)
  case atStart => exact ⟨0, next, bits, Nat.zero_le _, Nat.zero_le _, rfl, hx0, hy0, q0, q1, t3, hs3, hb4⟩
  case round =>
    obtain ⟨j, x, y, hjn, hj8, rfl, hx, hy, K⟩ := hrel
    clear q0 q1 t3 hs3 hb4
    have hs3 := K.s
    by_cases hlt : j < n
    · obtain ⟨s0, hs0⟩ : ∃ s0, l[j]? = some s0 := ⟨_, List.getElem?_eq_getElem (by rw [HN.out]; exact hlt)⟩
      obtain ⟨off, rfl, hcl⟩ := hs3 (by intro h0; have := congrArg List.length h0; simp at this; rw [this] at hs0; simp at hs0)
      have hcj := hcl j _ (us_get? hs0)
      have h0l := H16.out s0 (List.mem_of_getElem? hs0)
      by_cases hlt8 : j < 80
      · have n0 := K.r.c0
        obtain ⟨s, hs⟩ : ∃ s, s = (x + s0 % 40 + 65536 - 4) % 65536 := ⟨_, rfl⟩
        have hsl : s < 65536 := by omega
        have hse : IntKind.u16.wrap (IntKind.u16.wrap ((x : Int) + (s0 : Int) % 40) - 4) = (s : Int) := by rw [IntKind.wrap_u16, IntKind.wrap_u16]; omega
        obtain ⟨bx, by_, ok, hv1, hv2, hbx, hby, hok⟩ := notes_plain hx hy hsl
        have hH := fun W => Has_calls x y s W hx hy hsl
        have hRH := fun W => RefHas_calls x y s W hx hsl
        have hN := fun W h => Note_calls x y s W h hx hy hsl
        have hRN := fun W => RefNote_calls x y s W hx hy hsl
        rw [hv1] at hN
        rw [hv2] at hRN
        have HB := fun W => Has_calls bx by_ s W hbx hby hsl
        have HRB := fun W => RefBits_calls bx by_ W hby
        have HA := fun W => Ahead_calls bx by_ W hby
        obtain ⟨had, hhad⟩ : ∃ had, had = hasN x y s := ⟨_, rfl⟩
        rw [← hhad] at hH hRH hok
        obtain ⟨c00, c01⟩ := And.intro K.a.c0 K.a.c1
        have HOK := Lib.hid hok
        clear hs hs0 hv1 hv2 hhad hcl hok hx hy hsl
        go_wp2_with fail
        refine (hH _).mono ?_
        rintro e w3 ⟨rfl, hb5⟩
        have K := K.ext hb5
        have q1 := K.r
        clear hb5 hH c00 c01 n0 hcj
        go_wp2_with (refine wpList_load_ra rfl (.tmp 10) rfl w2.heap.size rfl _ _ q1 ?_)
        refine (hRH _).mono ?_
        rintro e w4 ⟨rfl, hb5⟩
        have K := K.ext hb5
        obtain ⟨c00, c01⟩ := And.intro K.a.c0 K.a.c1
        clear hb5 hRH q1
        go_wp2_with fail
        refine (hN _ K.t).mono ?_
        rintro e w5 ⟨rfl, hb5⟩
        have hz5 : w2.heap.size < w5.heap.size := (K.ext hb5).r.lt
        have K := (K.ext hb5).alloc (.cells #[.int .u16 (bx : Int), .int .u32 (by_ : Int)] 34)
        have p0 := Box2.new_ w5 (.int .u16 (bx : Int)) (.int .u32 (by_ : Int))
        have q1 := K.r
        clear hb5 hN c00 c01
        simp only [acksV]
        go_wp2_with (refine wpList_load_ra rfl (.tmp 10) rfl w2.heap.size rfl _ _ q1 ?_)
        refine (hRN _).mono ?_
        rintro e w6 ⟨rfl, hb6⟩
        have hz6 : w2.heap.size < w6.heap.size := (K.ext hb6).r.lt
        have K := (K.ext hb6).alloc (.cells (raF bx by_.testBit) 37)
        have p0 := (p0.ext hb6).alloc (.cells (raF bx by_.testBit) 37)
        have p1 := BoxR.new_ w6 bx by_.testBit
        clear hb6 hRN q1
        go_wp2_with fail
        rw [BoxR.made]
        simp only [Result.andThen_ok]
        have hS : (_ ∧ _ ∧ _ ∧ _) := And.intro p1.c0 (And.intro p0.c0 (And.intro p0.c1 p1))
        go_wp2_with fail
        obtain ⟨V, hV⟩ : ∃ V, V = w6.alloc (.cells (raF bx by_.testBit) 37) := ⟨_, rfl⟩
        rw [← hV] at K p0 p1 hS ⊢
        clear hV
        cases ok with
        | true =>
          obtain ⟨k1, k2⟩ := HOK.out rfl
          subst k1
          rw [k2] at HB
          clear k2
          refine wp_region_held_drew (S := fun w' => w'.cell? ⟨w6.heap.size, 0, none⟩ = some (.int .u16 (bx : Int)) ∧ w'.cell? ⟨w5.heap.size, 0, none⟩ = some (.int .u16 (bx : Int)) ∧ w'.cell? ⟨w5.heap.size, 1, none⟩ = some (.int .u32 (by_ : Int)) ∧ BoxR w' w6.heap.size bx by_.testBit) (by kernel_rfl) ?_ (fun hHeld => ?_)
          · exact hS
          refine wpAnyH_take (i := 0) (v := ?v0) (by simp only [List.getElem?_toArray, List.getElem?_cons_zero]; rfl) (by kernel_rfl) (by kernel_rfl) (by kernel_rfl) (by exact fun _ _ _ h => h) (Or.inl ⟨by rfl, ?y0⟩) hHeld ?_
          case y0 => (intro w hSw; (try dsimp only at hSw); obtain ⟨hs1, hs2, hs3, hs4⟩ := hSw; clear hs4; go_simp; try (with_reducible rfl))
          try simp only [Act.put, List.setIfInBounds_toArray, List.set_cons_zero, List.set_cons_succ]
          refine wpAnyH_take (i := 1) (v := ?v1) (by simp only [List.getElem?_toArray, List.getElem?_cons_succ, List.getElem?_cons_zero]; rfl) (by kernel_rfl) (by kernel_rfl) (by kernel_rfl) (by exact fun _ _ _ h => h) (Or.inl ⟨by rfl, ?y1⟩) hHeld ?_
          case y1 => (intro w hSw; (try dsimp only at hSw); obtain ⟨hs1, hs2, hs3, hs4⟩ := hSw; clear hs4; go_simp; try (with_reducible rfl))
          try simp only [Act.put, List.setIfInBounds_toArray, List.set_cons_zero, List.set_cons_succ]
          refine wpAnyH_take (i := 2) (v := ?v2) (by simp only [List.getElem?_toArray, List.getElem?_cons_succ, List.getElem?_cons_zero]; rfl) (by kernel_rfl) (by kernel_rfl) (by kernel_rfl) (by exact fun _ _ _ h => h) (Or.inl ⟨by rfl, ?y2⟩) hHeld ?_
          case y2 => (intro w hSw; (try dsimp only at hSw); obtain ⟨hs1, hs2, hs3, hs4⟩ := hSw; clear hs4; go_simp; try (with_reducible rfl))
          try simp only [Act.put, List.setIfInBounds_toArray, List.set_cons_zero, List.set_cons_succ]
          refine wpAnyH_take (i := 3) (v := ?v3) (by simp only [List.getElem?_toArray, List.getElem?_cons_succ, List.getElem?_cons_zero]; rfl) (by kernel_rfl) (by kernel_rfl) (by kernel_rfl) (by exact fun _ _ _ h => h) (Or.inl ⟨by rfl, ?y3⟩) hHeld ?_
          case y3 => (intro w hSw; (try dsimp only at hSw); obtain ⟨hs1, hs2, hs3, hs4⟩ := hSw; clear hs4; go_simp; try (with_reducible rfl))
          try simp only [Act.put, List.setIfInBounds_toArray, List.set_cons_zero, List.set_cons_succ]
          refine wpAnyH_take (i := 4) (v := ?v4) (by simp only [List.getElem?_toArray, List.getElem?_cons_succ, List.getElem?_cons_zero]; rfl) (by kernel_rfl) (by kernel_rfl) (by kernel_rfl) (by exact fun _ _ _ h => h) (Or.inl ⟨by rfl, ?y4⟩) hHeld ?_
          case y4 => (intro w hSw; (try dsimp only at hSw); obtain ⟨hs1, hs2, hs3, hs4⟩ := hSw; clear hs4; go_simp; try (with_reducible rfl))
          try simp only [Act.put, List.setIfInBounds_toArray, List.set_cons_zero, List.set_cons_succ]
          refine wpAnyH_take (i := 5) (v := ?v5) (by simp only [List.getElem?_toArray, List.getElem?_cons_succ, List.getElem?_cons_zero]; rfl) (by kernel_rfl) (by kernel_rfl) (by kernel_rfl) (by exact fun _ _ _ h => h) (Or.inl ⟨by rfl, ?y5⟩) hHeld ?_
          case y5 => (intro w hSw; (try dsimp only at hSw); obtain ⟨hs1, hs2, hs3, hs4⟩ := hSw; clear hs4; go_simp; try (with_reducible rfl))
          try simp only [Act.put, List.setIfInBounds_toArray, List.set_cons_zero, List.set_cons_succ]
          refine wpAnyH_take (i := 6) (v := ?v6) (by simp only [List.getElem?_toArray, List.getElem?_cons_succ, List.getElem?_cons_zero]; rfl) (by kernel_rfl) (by kernel_rfl) (by kernel_rfl) (by exact fun _ _ _ h => h) (Or.inl ⟨by rfl, ?y6⟩) hHeld ?_
          case y6 => (intro w hSw; (try dsimp only at hSw); obtain ⟨hs1, hs2, hs3, hs4⟩ := hSw; clear hs4; go_simp; try (with_reducible rfl))
          try simp only [Act.put, List.setIfInBounds_toArray, List.set_cons_zero, List.set_cons_succ]
          refine wpAnyH_take (i := 7) (v := ?v7) (by simp only [List.getElem?_toArray, List.getElem?_cons_succ, List.getElem?_cons_zero]; rfl) (by kernel_rfl) (by kernel_rfl) (by kernel_rfl) (by exact fun _ _ _ h => h) (Or.inl ⟨by rfl, ?y7⟩) hHeld ?_
          case y7 => (intro w hSw; (try dsimp only at hSw); obtain ⟨hs1, hs2, hs3, hs4⟩ := hSw; clear hs4; go_simp; try (with_reducible rfl))
          try simp only [Act.put, List.setIfInBounds_toArray, List.set_cons_zero, List.set_cons_succ]
          refine wpAnyH_take (i := 8) (v := ?v8) (by simp only [List.getElem?_toArray, List.getElem?_cons_succ, List.getElem?_cons_zero]; rfl) (by kernel_rfl) (by kernel_rfl) (by kernel_rfl) (by exact fun _ _ _ h => h) (Or.inl ⟨by rfl, ?y8⟩) hHeld ?_
          case y8 => (intro w hSw; (try dsimp only at hSw); obtain ⟨hs1, hs2, hs3, hs4⟩ := hSw; clear hs4; go_simp; try (with_reducible rfl))
          try simp only [Act.put, List.setIfInBounds_toArray, List.set_cons_zero, List.set_cons_succ]
          refine wpAnyH_take (i := 9) (v := ?v9) (by simp only [List.getElem?_toArray, List.getElem?_cons_succ, List.getElem?_cons_zero]; rfl) (by kernel_rfl) (by kernel_rfl) (by kernel_rfl) (by exact fun _ _ _ h => h) (Or.inl ⟨by rfl, ?y9⟩) hHeld ?_
          case y9 => (intro w hSw; (try dsimp only at hSw); obtain ⟨hs1, hs2, hs3, hs4⟩ := hSw; clear hs4; go_simp; try (with_reducible rfl))
          try simp only [Act.put, List.setIfInBounds_toArray, List.set_cons_zero, List.set_cons_succ]
          refine wpAnyH_take (i := 10) (v := ?v10) (by simp only [List.getElem?_toArray, List.getElem?_cons_succ, List.getElem?_cons_zero]; rfl) (by kernel_rfl) (by kernel_rfl) (by kernel_rfl) (by exact fun _ _ _ h => h) (Or.inl ⟨by rfl, ?y10⟩) hHeld ?_
          case y10 => (intro w hSw; (try dsimp only at hSw); obtain ⟨hs1, hs2, hs3, hs4⟩ := hSw; clear hs4; go_simp; try (with_reducible rfl))
          try simp only [Act.put, List.setIfInBounds_toArray, List.set_cons_zero, List.set_cons_succ]
          refine wpAnyH_take (i := 11) (v := ?v11) (by simp only [List.getElem?_toArray, List.getElem?_cons_succ, List.getElem?_cons_zero]; rfl) (by kernel_rfl) (by kernel_rfl) (by kernel_rfl) (by exact fun _ _ _ h => h) (Or.inl ⟨by rfl, ?y11⟩) hHeld ?_
          case y11 => (intro w hSw; (try dsimp only at hSw); obtain ⟨hs1, hs2, hs3, hs4⟩ := hSw; clear hs4; go_simp; try (with_reducible rfl))
          try simp only [Act.put, List.setIfInBounds_toArray, List.set_cons_zero, List.set_cons_succ]
          refine wpAnyH_take (i := 12) (v := ?v12) (by simp only [List.getElem?_toArray, List.getElem?_cons_succ, List.getElem?_cons_zero]; rfl) (by kernel_rfl) (by kernel_rfl) (by kernel_rfl) (by exact fun _ _ _ h => h) (Or.inl ⟨by rfl, ?y12⟩) hHeld ?_
          case y12 => (intro w hSw; (try dsimp only at hSw); obtain ⟨hs1, hs2, hs3, hs4⟩ := hSw; clear hs4; go_simp; try (with_reducible rfl))
          try simp only [Act.put, List.setIfInBounds_toArray, List.set_cons_zero, List.set_cons_succ]
          refine wpAnyH_take (i := 13) (by simp only [List.getElem?_toArray, List.getElem?_cons_succ, List.getElem?_cons_zero]; rfl) (by kernel_rfl) (by kernel_rfl) (by kernel_rfl) (by exact fun _ _ _ h => h) (by exact yieldsIf_load_ra (by rfl) _ rfl _ rfl _ _ (fun w h => h.2.2.2)) hHeld ?_
          try simp only [Act.put, List.setIfInBounds_toArray, List.set_cons_zero, List.set_cons_succ]
          refine wpAnyH_ready (rs := [14]) (by kernel_rfl) (by simp) ?_
          refine AllReadyH.cons (by simp only [List.getElem?_toArray, List.getElem?_cons_succ, List.getElem?_cons_zero]; rfl) (fun KK hKK => ?_) AllReadyH.nil
          go_simp
          refine (HRB _).mono ?_
          rintro e w7 ⟨rfl, hb7⟩
          have K := NSt.ext K.drew hb7
          have p0 := Box2.ext (w := V.drew) p0 hb7
          have p1 := BoxR.ext (w := V.drew) p1 hb7
          have hS := And.intro p1.c0 (And.intro p0.c0 (And.intro p0.c1 p1))
          go_wp2_with fail
          refine hKK.out _ _ ?_ (fun hHeld => ?_)
          · exact hS
          clear hKK KK
          try simp only [Act.put, List.setIfInBounds_toArray, List.set_cons_zero, List.set_cons_succ]
          refine wpAnyH_take (i := 15) (v := ?v15) (by simp only [List.getElem?_toArray, List.getElem?_cons_succ, List.getElem?_cons_zero]; rfl) (by kernel_rfl) (by kernel_rfl) (by kernel_rfl) (by exact fun _ _ _ h => h) (Or.inl ⟨by rfl, ?y15⟩) hHeld ?_
          case y15 => (intro w hSw; (try dsimp only at hSw); obtain ⟨hs1, hs2, hs3, hs4⟩ := hSw; clear hs4; go_simp; try (with_reducible rfl))
          try simp only [Act.put, List.setIfInBounds_toArray, List.set_cons_zero, List.set_cons_succ]
          refine wpAnyH_take (i := 16) (v := ?v16) (by simp only [List.getElem?_toArray, List.getElem?_cons_succ, List.getElem?_cons_zero]; rfl) (by kernel_rfl) (by kernel_rfl) (by kernel_rfl) (by exact fun _ _ _ h => h) (Or.inl ⟨by rfl, ?y16⟩) hHeld ?_
          case y16 => (intro w hSw; (try dsimp only at hSw); obtain ⟨hs1, hs2, hs3, hs4⟩ := hSw; clear hs4; go_simp; try (with_reducible rfl))
          try simp only [Act.put, List.setIfInBounds_toArray, List.set_cons_zero, List.set_cons_succ]
          refine wpAnyH_take (i := 17) (v := ?v17) (by simp only [List.getElem?_toArray, List.getElem?_cons_succ, List.getElem?_cons_zero]; rfl) (by kernel_rfl) (by kernel_rfl) (by kernel_rfl) (by exact fun _ _ _ h => h) (Or.inl ⟨by rfl, ?y17⟩) hHeld ?_
          case y17 => (intro w hSw; (try dsimp only at hSw); obtain ⟨hs1, hs2, hs3, hs4⟩ := hSw; clear hs4; go_simp; try (with_reducible rfl))
          try simp only [Act.put, List.setIfInBounds_toArray, List.set_cons_zero, List.set_cons_succ]
          refine wpAnyH_take (i := 18) (v := ?v18) (by simp only [List.getElem?_toArray, List.getElem?_cons_succ, List.getElem?_cons_zero]; rfl) (by kernel_rfl) (by kernel_rfl) (by kernel_rfl) (by exact fun _ _ _ h => h) (Or.inl ⟨by rfl, ?y18⟩) hHeld ?_
          case y18 => (intro w hSw; (try dsimp only at hSw); obtain ⟨hs1, hs2, hs3, hs4⟩ := hSw; clear hs4; go_simp; try (with_reducible rfl))
          try simp only [Act.put, List.setIfInBounds_toArray, List.set_cons_zero, List.set_cons_succ]
          refine wpAnyH_take (i := 19) (v := ?v19) (by simp only [List.getElem?_toArray, List.getElem?_cons_succ, List.getElem?_cons_zero]; rfl) (by kernel_rfl) (by kernel_rfl) (by kernel_rfl) (by exact fun _ _ _ h => h) (Or.inl ⟨by rfl, ?y19⟩) hHeld ?_
          case y19 => (intro w hSw; (try dsimp only at hSw); obtain ⟨hs1, hs2, hs3, hs4⟩ := hSw; clear hs4; go_simp; try (with_reducible rfl))
          try simp only [Act.put, List.setIfInBounds_toArray, List.set_cons_zero, List.set_cons_succ]
          refine wpAnyH_take (i := 20) (v := ?v20) (by simp only [List.getElem?_toArray, List.getElem?_cons_succ, List.getElem?_cons_zero]; rfl) (by kernel_rfl) (by kernel_rfl) (by kernel_rfl) (by exact fun _ _ _ h => h) (Or.inl ⟨by rfl, ?y20⟩) hHeld ?_
          case y20 => (intro w hSw; (try dsimp only at hSw); obtain ⟨hs1, hs2, hs3, hs4⟩ := hSw; clear hs4; go_simp; try (with_reducible rfl))
          try simp only [Act.put, List.setIfInBounds_toArray, List.set_cons_zero, List.set_cons_succ]
          refine wpAnyH_take (i := 21) (v := ?v21) (by simp only [List.getElem?_toArray, List.getElem?_cons_succ, List.getElem?_cons_zero]; rfl) (by kernel_rfl) (by kernel_rfl) (by kernel_rfl) (by exact fun _ _ _ h => h) (Or.inl ⟨by rfl, ?y21⟩) hHeld ?_
          case y21 => (intro w hSw; (try dsimp only at hSw); obtain ⟨hs1, hs2, hs3, hs4⟩ := hSw; clear hs4; go_simp; try (with_reducible rfl))
          try simp only [Act.put, List.setIfInBounds_toArray, List.set_cons_zero, List.set_cons_succ]
          refine wpAnyH_take (i := 22) (v := ?v22) (by simp only [List.getElem?_toArray, List.getElem?_cons_succ, List.getElem?_cons_zero]; rfl) (by kernel_rfl) (by kernel_rfl) (by kernel_rfl) (by exact fun _ _ _ h => h) (Or.inl ⟨by rfl, ?y22⟩) hHeld ?_
          case y22 => (intro w hSw; (try dsimp only at hSw); obtain ⟨hs1, hs2, hs3, hs4⟩ := hSw; clear hs4; go_simp; try (with_reducible rfl))
          try simp only [Act.put, List.setIfInBounds_toArray, List.set_cons_zero, List.set_cons_succ]
          refine wpAnyH_take (i := 23) (v := ?v23) (by simp only [List.getElem?_toArray, List.getElem?_cons_succ, List.getElem?_cons_zero]; rfl) (by kernel_rfl) (by kernel_rfl) (by kernel_rfl) (by exact fun _ _ _ h => h) (Or.inl ⟨by rfl, ?y23⟩) hHeld ?_
          case y23 => (intro w hSw; (try dsimp only at hSw); obtain ⟨hs1, hs2, hs3, hs4⟩ := hSw; clear hs4; go_simp; try (with_reducible rfl))
          try simp only [Act.put, List.setIfInBounds_toArray, List.set_cons_zero, List.set_cons_succ]
          refine wpAnyH_ready (rs := [24]) (by kernel_rfl) (by simp) ?_
          refine AllReadyH.cons (by simp only [List.getElem?_toArray, List.getElem?_cons_succ, List.getElem?_cons_zero]; rfl) (fun KK hKK => ?_) AllReadyH.nil
          go_simp
          refine (HB _).mono ?_
          rintro e w8 ⟨rfl, hb8⟩
          have K := NSt.ext K hb8
          have p0 := p0.ext hb8
          have p1 := p1.ext hb8
          have hS := And.intro p1.c0 (And.intro p0.c0 (And.intro p0.c1 p1))
          go_wp2_with fail
          refine hKK.out _ _ ?_ (fun hHeld => ?_)
          · exact hS
          clear hKK KK
          try simp only [Act.put, List.setIfInBounds_toArray, List.set_cons_zero, List.set_cons_succ]
          refine wpAnyH_take (i := 25) (v := ?v25) (by simp only [List.getElem?_toArray, List.getElem?_cons_succ, List.getElem?_cons_zero]; rfl) (by kernel_rfl) (by kernel_rfl) (by kernel_rfl) (by exact fun _ _ _ h => h) (Or.inl ⟨by rfl, ?y25⟩) hHeld ?_
          case y25 => (intro w hSw; (try dsimp only at hSw); obtain ⟨hs1, hs2, hs3, hs4⟩ := hSw; clear hs4; go_simp; try (with_reducible rfl))
          try simp only [Act.put, List.setIfInBounds_toArray, List.set_cons_zero, List.set_cons_succ]
          refine wpAnyH_take (i := 26) (v := ?v26) (by simp only [List.getElem?_toArray, List.getElem?_cons_succ, List.getElem?_cons_zero]; rfl) (by kernel_rfl) (by kernel_rfl) (by kernel_rfl) (by exact fun _ _ _ h => h) (Or.inl ⟨by rfl, ?y26⟩) hHeld ?_
          case y26 => (intro w hSw; (try dsimp only at hSw); obtain ⟨hs1, hs2, hs3, hs4⟩ := hSw; clear hs4; go_simp; try (with_reducible rfl))
          try simp only [Act.put, List.setIfInBounds_toArray, List.set_cons_zero, List.set_cons_succ]
          refine wpAnyH_take (i := 27) (v := ?v27) (by simp only [List.getElem?_toArray, List.getElem?_cons_succ, List.getElem?_cons_zero]; rfl) (by kernel_rfl) (by kernel_rfl) (by kernel_rfl) (by exact fun _ _ _ h => h) (Or.inl ⟨by rfl, ?y27⟩) hHeld ?_
          case y27 => (intro w hSw; (try dsimp only at hSw); obtain ⟨hs1, hs2, hs3, hs4⟩ := hSw; clear hs4; go_simp; try (with_reducible rfl))
          try simp only [Act.put, List.setIfInBounds_toArray, List.set_cons_zero, List.set_cons_succ]
          refine wpAnyH_take (i := 28) (v := ?v28) (by simp only [List.getElem?_toArray, List.getElem?_cons_succ, List.getElem?_cons_zero]; rfl) (by kernel_rfl) (by kernel_rfl) (by kernel_rfl) (by exact fun _ _ _ h => h) (Or.inl ⟨by rfl, ?y28⟩) hHeld ?_
          case y28 => (intro w hSw; (try dsimp only at hSw); obtain ⟨hs1, hs2, hs3, hs4⟩ := hSw; clear hs4; go_simp; try (with_reducible rfl))
          try simp only [Act.put, List.setIfInBounds_toArray, List.set_cons_zero, List.set_cons_succ]
          refine wpAnyH_done (by kernel_rfl) ?_ _
          go_wp2_with (refine wpList_load_mid rfl 35 (.tmp 95) rfl w6.heap.size 1 rfl _ _ (p1.flags) Tryd.underlying35 rfl flag_size ?_)
          go_loopw [18, 97] (fun nn k wz => ∃ i : Nat, i ≤ 32 ∧ k = .int .i64 i ∧ nn = .int .i64 (cnt by_ i : Nat) ∧ wz = w8) (fun _ k _ => 32 - (intOf k).toNat)
          case atStart => exact ⟨0, Nat.zero_le _, rfl, rfl, rfl⟩
          case round =>
            obtain ⟨i, hi, rfl, rfl, rfl⟩ := hrel
            by_cases hi2 : i < 32
            · have hle := cnt_le by_ i
              have hsuc : cnt by_ (i + 1) = cnt by_ i + (if by_.testBit i = true then 1 else 0) := rfl
              obtain ⟨N, hN⟩ : ∃ N, N = cnt by_ i := ⟨_, rfl⟩
              rw [← hN] at hle hsuc ⊢
              have hidx := run_index_flags by_.testBit i hi2
              have ei : (i : Int) < 32 := by omega
              clear hN
              cases hbit : by_.testBit i with
              | true =>
                rw [hbit] at hidx hsuc
                rw [if_pos rfl] at hsuc
                have HSU := Lib.hid hsuc
                clear hbit hsuc
                go_wp2_with fail
                go_roundw
                case rel => exact ⟨i + 1, by omega, by go_num, by rw [HSU.out]; go_num, trivial⟩
                case measure => simp [intOf]; omega
              | false =>
                rw [hbit] at hidx hsuc
                rw [if_neg (by simp)] at hsuc
                have HSU := Lib.hid hsuc
                clear hbit hsuc
                go_wp2_with fail
                go_roundw
                case rel => exact ⟨i + 1, by omega, by go_num, by rw [HSU.out]; go_num, trivial⟩
                case measure => simp [intOf]; omega
            · obtain rfl : i = 32 := by omega
              obtain ⟨C, hC⟩ : ∃ C, C = cnt by_ 32 := ⟨_, rfl⟩
              rw [← hC] at HA ⊢
              obtain ⟨d0, d1⟩ := And.intro p0.c0 p0.c1
              clear hC
              go_wp2_with fail
              refine (HA _).mono ?_
              rintro e w9 ⟨rfl, hb9⟩
              have K := K.ext hb9
              have p0 := p0.ext hb9
              have p1 := p1.ext hb9
              have hS9 := And.intro p0.c0 (And.intro p0.c1 p1)
              have K9 := K.drew.stored hz hz12 HTW.out HSW.out bx by_
              obtain ⟨c00, c01⟩ := And.intro K.a.c0 K.a.c1
              obtain ⟨f00, f01⟩ := And.intro (K.a.f 0) (K.a.f 1)
              have p2 := (p0.other (p := ⟨w1.heap.size, 0, none⟩) (by simp; omega) (.int .u16 (bx : Int))).other (p := ⟨w1.heap.size, 1, none⟩) (by simp; omega) (.int .u32 (by_ : Int))
              have p3 := (p1.other (p := ⟨w1.heap.size, 0, none⟩) (by simp; omega) (.int .u16 (bx : Int))).other (p := ⟨w1.heap.size, 1, none⟩) (by simp; omega) (.int .u32 (by_ : Int))
              have hS10 := And.intro p2.c0 (And.intro p2.c1 p3)
              have hg10 := (K.r.other (p := ⟨w1.heap.size, 0, none⟩) (by simp; omega) (.int .u16 (bx : Int))).other (p := ⟨w1.heap.size, 1, none⟩) (by simp; omega) (.int .u32 (by_ : Int))
              have p4 : Box2 _ w5.heap.size _ _ := (setRow_other _ w2.heap.size w5.heap.size (raF bx by_.testBit) (by omega)).trans p2
              have p5 := p3.orow (g' := w2.heap.size) (by omega) (raF bx by_.testBit)
              have hS11 := And.intro p4.c0 (And.intro p4.c1 p5)
              clear hb9 d0 d1 p2 p3 p4 p5
              go_wp2_with fail
              refine wp_region_held_drew (S := fun w' => w'.cell? ⟨w5.heap.size, 0, none⟩ = some (.int .u16 (bx : Int)) ∧ w'.cell? ⟨w5.heap.size, 1, none⟩ = some (.int .u32 (by_ : Int)) ∧ BoxR w' w6.heap.size bx by_.testBit) (by kernel_rfl) ?_ (fun hHeld => ?_)
              · exact hS9
              refine wpAnyH_take (i := 0) (v := ?gv0) (by simp only [List.getElem?_toArray, List.getElem?_cons_zero]; rfl) (by kernel_rfl) (by kernel_rfl) (by kernel_rfl) (by exact fun _ _ _ h => h) (Or.inl ⟨by rfl, ?gy0⟩) hHeld ?_
              case gy0 => (intro w hSw; (try dsimp only at hSw); obtain ⟨hs1, hs2, hs3⟩ := hSw; clear hs3; go_simp; try (with_reducible rfl))
              try simp only [Act.put, List.setIfInBounds_toArray, List.set_cons_zero, List.set_cons_succ]
              refine wpAnyH_take (i := 1) (by simp only [List.getElem?_toArray, List.getElem?_cons_succ, List.getElem?_cons_zero]; rfl) (by kernel_rfl) (by kernel_rfl) (by kernel_rfl) (by exact fun _ _ _ h => h) (by exact yieldsIf_load_ra (by rfl) _ rfl _ rfl _ _ (fun w h => h.2.2)) hHeld ?_
              try simp only [Act.put, List.setIfInBounds_toArray, List.set_cons_zero, List.set_cons_succ]
              refine wpAnyH_ready (rs := [2]) (by kernel_rfl) (by simp) ?_
              refine AllReadyH.cons (by simp only [List.getElem?_toArray, List.getElem?_cons_succ, List.getElem?_cons_zero]; rfl) (fun KK hKK => ?_) AllReadyH.nil
              go_simp
              refine hKK.out _ _ ?_ (fun hHeld => ?_)
              · exact hS10
              clear hKK KK
              try simp only [Act.put, List.setIfInBounds_toArray, List.set_cons_zero, List.set_cons_succ]
              refine wpAnyH_ready (rs := [3]) (by kernel_rfl) (by simp) ?_
              refine AllReadyH.cons (by simp only [List.getElem?_toArray, List.getElem?_cons_succ, List.getElem?_cons_zero]; rfl) (fun KK hKK => ?_) AllReadyH.nil
              rw [if_pos (by rfl)]
              refine wp_store_row 37 (.tmp 10) (.tmp 109) rfl w2.heap.size (raF bx by_.testBit) rfl rfl _ _ hg10 (ra_size _ _) (by rw [raF_size, raF_size]) (raF_all _ _) ?_
              refine hKK.out _ _ ?_ (fun hHeld => ?_)
              · exact hS11
              clear hKK KK
              try simp only [Act.put]
              refine wpAnyH_done (by kernel_rfl) ?_ _
              go_wp2_with fail
              go_roundw
              case rel => exact ⟨j + 1, bx, by_, by omega, by omega, by go_num, hbx, hby, K9⟩
              case measure => simp [intOf]; omega
        | false =>
          refine wp_region_held_drew (S := fun w' => w'.cell? ⟨w6.heap.size, 0, none⟩ = some (.int .u16 (bx : Int)) ∧ w'.cell? ⟨w5.heap.size, 0, none⟩ = some (.int .u16 (bx : Int)) ∧ w'.cell? ⟨w5.heap.size, 1, none⟩ = some (.int .u32 (by_ : Int)) ∧ BoxR w' w6.heap.size bx by_.testBit) (by kernel_rfl) ?_ (fun hHeld => ?_)
          · exact hS
          refine wpAnyH_take (i := 0) (v := ?fv0) (by simp only [List.getElem?_toArray, List.getElem?_cons_zero]; rfl) (by kernel_rfl) (by kernel_rfl) (by kernel_rfl) (by exact fun _ _ _ h => h) (Or.inl ⟨by rfl, ?fy0⟩) hHeld ?_
          case fy0 => (intro w hSw; (try dsimp only at hSw); obtain ⟨hs1, hs2, hs3, hs4⟩ := hSw; clear hs4; go_simp; try (with_reducible rfl))
          try simp only [Act.put, List.setIfInBounds_toArray, List.set_cons_zero, List.set_cons_succ]
          refine wpAnyH_take (i := 1) (v := ?fv1) (by simp only [List.getElem?_toArray, List.getElem?_cons_succ, List.getElem?_cons_zero]; rfl) (by kernel_rfl) (by kernel_rfl) (by kernel_rfl) (by exact fun _ _ _ h => h) (Or.inl ⟨by rfl, ?fy1⟩) hHeld ?_
          case fy1 => (intro w hSw; (try dsimp only at hSw); obtain ⟨hs1, hs2, hs3, hs4⟩ := hSw; clear hs4; go_simp; try (with_reducible rfl))
          try simp only [Act.put, List.setIfInBounds_toArray, List.set_cons_zero, List.set_cons_succ]
          refine wpAnyH_take (i := 2) (v := ?fv2) (by simp only [List.getElem?_toArray, List.getElem?_cons_succ, List.getElem?_cons_zero]; rfl) (by kernel_rfl) (by kernel_rfl) (by kernel_rfl) (by exact fun _ _ _ h => h) (Or.inl ⟨by rfl, ?fy2⟩) hHeld ?_
          case fy2 => (intro w hSw; (try dsimp only at hSw); obtain ⟨hs1, hs2, hs3, hs4⟩ := hSw; clear hs4; go_simp; try (with_reducible rfl))
          try simp only [Act.put, List.setIfInBounds_toArray, List.set_cons_zero, List.set_cons_succ]
          refine wpAnyH_take (i := 3) (v := ?fv3) (by simp only [List.getElem?_toArray, List.getElem?_cons_succ, List.getElem?_cons_zero]; rfl) (by kernel_rfl) (by kernel_rfl) (by kernel_rfl) (by exact fun _ _ _ h => h) (Or.inl ⟨by rfl, ?fy3⟩) hHeld ?_
          case fy3 => (intro w hSw; (try dsimp only at hSw); obtain ⟨hs1, hs2, hs3, hs4⟩ := hSw; clear hs4; go_simp; try (with_reducible rfl))
          try simp only [Act.put, List.setIfInBounds_toArray, List.set_cons_zero, List.set_cons_succ]
          refine wpAnyH_take (i := 4) (v := ?fv4) (by simp only [List.getElem?_toArray, List.getElem?_cons_succ, List.getElem?_cons_zero]; rfl) (by kernel_rfl) (by kernel_rfl) (by kernel_rfl) (by exact fun _ _ _ h => h) (Or.inl ⟨by rfl, ?fy4⟩) hHeld ?_
          case fy4 => (intro w hSw; (try dsimp only at hSw); obtain ⟨hs1, hs2, hs3, hs4⟩ := hSw; clear hs4; go_simp; try (with_reducible rfl))
          try simp only [Act.put, List.setIfInBounds_toArray, List.set_cons_zero, List.set_cons_succ]
          refine wpAnyH_take (i := 5) (v := ?fv5) (by simp only [List.getElem?_toArray, List.getElem?_cons_succ, List.getElem?_cons_zero]; rfl) (by kernel_rfl) (by kernel_rfl) (by kernel_rfl) (by exact fun _ _ _ h => h) (Or.inl ⟨by rfl, ?fy5⟩) hHeld ?_
          case fy5 => (intro w hSw; (try dsimp only at hSw); obtain ⟨hs1, hs2, hs3, hs4⟩ := hSw; clear hs4; go_simp; try (with_reducible rfl))
          try simp only [Act.put, List.setIfInBounds_toArray, List.set_cons_zero, List.set_cons_succ]
          refine wpAnyH_take (i := 6) (v := ?fv6) (by simp only [List.getElem?_toArray, List.getElem?_cons_succ, List.getElem?_cons_zero]; rfl) (by kernel_rfl) (by kernel_rfl) (by kernel_rfl) (by exact fun _ _ _ h => h) (Or.inl ⟨by rfl, ?fy6⟩) hHeld ?_
          case fy6 => (intro w hSw; (try dsimp only at hSw); obtain ⟨hs1, hs2, hs3, hs4⟩ := hSw; clear hs4; go_simp; try (with_reducible rfl))
          try simp only [Act.put, List.setIfInBounds_toArray, List.set_cons_zero, List.set_cons_succ]
          refine wpAnyH_take (i := 7) (v := ?fv7) (by simp only [List.getElem?_toArray, List.getElem?_cons_succ, List.getElem?_cons_zero]; rfl) (by kernel_rfl) (by kernel_rfl) (by kernel_rfl) (by exact fun _ _ _ h => h) (Or.inl ⟨by rfl, ?fy7⟩) hHeld ?_
          case fy7 => (intro w hSw; (try dsimp only at hSw); obtain ⟨hs1, hs2, hs3, hs4⟩ := hSw; clear hs4; go_simp; try (with_reducible rfl))
          try simp only [Act.put, List.setIfInBounds_toArray, List.set_cons_zero, List.set_cons_succ]
          refine wpAnyH_take (i := 8) (v := ?fv8) (by simp only [List.getElem?_toArray, List.getElem?_cons_succ, List.getElem?_cons_zero]; rfl) (by kernel_rfl) (by kernel_rfl) (by kernel_rfl) (by exact fun _ _ _ h => h) (Or.inl ⟨by rfl, ?fy8⟩) hHeld ?_
          case fy8 => (intro w hSw; (try dsimp only at hSw); obtain ⟨hs1, hs2, hs3, hs4⟩ := hSw; clear hs4; go_simp; try (with_reducible rfl))
          try simp only [Act.put, List.setIfInBounds_toArray, List.set_cons_zero, List.set_cons_succ]
          refine wpAnyH_take (i := 9) (v := ?fv9) (by simp only [List.getElem?_toArray, List.getElem?_cons_succ, List.getElem?_cons_zero]; rfl) (by kernel_rfl) (by kernel_rfl) (by kernel_rfl) (by exact fun _ _ _ h => h) (Or.inl ⟨by rfl, ?fy9⟩) hHeld ?_
          case fy9 => (intro w hSw; (try dsimp only at hSw); obtain ⟨hs1, hs2, hs3, hs4⟩ := hSw; clear hs4; go_simp; try (with_reducible rfl))
          try simp only [Act.put, List.setIfInBounds_toArray, List.set_cons_zero, List.set_cons_succ]
          refine wpAnyH_take (i := 10) (v := ?fv10) (by simp only [List.getElem?_toArray, List.getElem?_cons_succ, List.getElem?_cons_zero]; rfl) (by kernel_rfl) (by kernel_rfl) (by kernel_rfl) (by exact fun _ _ _ h => h) (Or.inl ⟨by rfl, ?fy10⟩) hHeld ?_
          case fy10 => (intro w hSw; (try dsimp only at hSw); obtain ⟨hs1, hs2, hs3, hs4⟩ := hSw; clear hs4; go_simp; try (with_reducible rfl))
          try simp only [Act.put, List.setIfInBounds_toArray, List.set_cons_zero, List.set_cons_succ]
          refine wpAnyH_take (i := 11) (v := ?fv11) (by simp only [List.getElem?_toArray, List.getElem?_cons_succ, List.getElem?_cons_zero]; rfl) (by kernel_rfl) (by kernel_rfl) (by kernel_rfl) (by exact fun _ _ _ h => h) (Or.inl ⟨by rfl, ?fy11⟩) hHeld ?_
          case fy11 => (intro w hSw; (try dsimp only at hSw); obtain ⟨hs1, hs2, hs3, hs4⟩ := hSw; clear hs4; go_simp; try (with_reducible rfl))
          try simp only [Act.put, List.setIfInBounds_toArray, List.set_cons_zero, List.set_cons_succ]
          refine wpAnyH_take (i := 12) (v := ?fv12) (by simp only [List.getElem?_toArray, List.getElem?_cons_succ, List.getElem?_cons_zero]; rfl) (by kernel_rfl) (by kernel_rfl) (by kernel_rfl) (by exact fun _ _ _ h => h) (Or.inl ⟨by rfl, ?fy12⟩) hHeld ?_
          case fy12 => (intro w hSw; (try dsimp only at hSw); obtain ⟨hs1, hs2, hs3, hs4⟩ := hSw; clear hs4; go_simp; try (with_reducible rfl))
          try simp only [Act.put, List.setIfInBounds_toArray, List.set_cons_zero, List.set_cons_succ]
          refine wpAnyH_take (i := 13) (by simp only [List.getElem?_toArray, List.getElem?_cons_succ, List.getElem?_cons_zero]; rfl) (by kernel_rfl) (by kernel_rfl) (by kernel_rfl) (by exact fun _ _ _ h => h) (by exact yieldsIf_load_ra (by rfl) _ rfl _ rfl _ _ (fun w h => h.2.2.2)) hHeld ?_
          try simp only [Act.put, List.setIfInBounds_toArray, List.set_cons_zero, List.set_cons_succ]
          refine wpAnyH_ready (rs := [14]) (by kernel_rfl) (by simp) ?_
          refine AllReadyH.cons (by simp only [List.getElem?_toArray, List.getElem?_cons_succ, List.getElem?_cons_zero]; rfl) (fun KK hKK => ?_) AllReadyH.nil
          go_simp
          refine (HRB _).mono ?_
          rintro e w7 ⟨rfl, hb7⟩
          have K := NSt.ext K.drew hb7
          have p0 := Box2.ext (w := V.drew) p0 hb7
          have p1 := BoxR.ext (w := V.drew) p1 hb7
          have hS := And.intro p1.c0 (And.intro p0.c0 (And.intro p0.c1 p1))
          go_wp2_with fail
          refine hKK.out _ _ ?_ (fun hHeld => ?_)
          · exact hS
          clear hKK KK
          try simp only [Act.put, List.setIfInBounds_toArray, List.set_cons_zero, List.set_cons_succ]
          refine wpAnyH_take (i := 15) (v := ?fv15) (by simp only [List.getElem?_toArray, List.getElem?_cons_succ, List.getElem?_cons_zero]; rfl) (by kernel_rfl) (by kernel_rfl) (by kernel_rfl) (by exact fun _ _ _ h => h) (Or.inl ⟨by rfl, ?fy15⟩) hHeld ?_
          case fy15 => (intro w hSw; (try dsimp only at hSw); obtain ⟨hs1, hs2, hs3, hs4⟩ := hSw; clear hs4; go_simp; try (with_reducible rfl))
          try simp only [Act.put, List.setIfInBounds_toArray, List.set_cons_zero, List.set_cons_succ]
          refine wpAnyH_take (i := 16) (v := ?fv16) (by simp only [List.getElem?_toArray, List.getElem?_cons_succ, List.getElem?_cons_zero]; rfl) (by kernel_rfl) (by kernel_rfl) (by kernel_rfl) (by exact fun _ _ _ h => h) (Or.inl ⟨by rfl, ?fy16⟩) hHeld ?_
          case fy16 => (intro w hSw; (try dsimp only at hSw); obtain ⟨hs1, hs2, hs3, hs4⟩ := hSw; clear hs4; go_simp; try (with_reducible rfl))
          try simp only [Act.put, List.setIfInBounds_toArray, List.set_cons_zero, List.set_cons_succ]
          refine wpAnyH_take (i := 17) (v := ?fv17) (by simp only [List.getElem?_toArray, List.getElem?_cons_succ, List.getElem?_cons_zero]; rfl) (by kernel_rfl) (by kernel_rfl) (by kernel_rfl) (by exact fun _ _ _ h => h) (Or.inl ⟨by rfl, ?fy17⟩) hHeld ?_
          case fy17 => (intro w hSw; (try dsimp only at hSw); obtain ⟨hs1, hs2, hs3, hs4⟩ := hSw; clear hs4; go_simp; try (with_reducible rfl))
          try simp only [Act.put, List.setIfInBounds_toArray, List.set_cons_zero, List.set_cons_succ]
          refine wpAnyH_take (i := 18) (v := ?fv18) (by simp only [List.getElem?_toArray, List.getElem?_cons_succ, List.getElem?_cons_zero]; rfl) (by kernel_rfl) (by kernel_rfl) (by kernel_rfl) (by exact fun _ _ _ h => h) (Or.inl ⟨by rfl, ?fy18⟩) hHeld ?_
          case fy18 => (intro w hSw; (try dsimp only at hSw); obtain ⟨hs1, hs2, hs3, hs4⟩ := hSw; clear hs4; go_simp; try (with_reducible rfl))
          try simp only [Act.put, List.setIfInBounds_toArray, List.set_cons_zero, List.set_cons_succ]
          refine wpAnyH_take (i := 19) (v := ?fv19) (by simp only [List.getElem?_toArray, List.getElem?_cons_succ, List.getElem?_cons_zero]; rfl) (by kernel_rfl) (by kernel_rfl) (by kernel_rfl) (by exact fun _ _ _ h => h) (Or.inl ⟨by rfl, ?fy19⟩) hHeld ?_
          case fy19 => (intro w hSw; (try dsimp only at hSw); obtain ⟨hs1, hs2, hs3, hs4⟩ := hSw; clear hs4; go_simp; try (with_reducible rfl))
          try simp only [Act.put, List.setIfInBounds_toArray, List.set_cons_zero, List.set_cons_succ]
          refine wpAnyH_take (i := 20) (by simp only [List.getElem?_toArray, List.getElem?_cons_succ, List.getElem?_cons_zero]; rfl) (by kernel_rfl) (by kernel_rfl) (by kernel_rfl) (by exact fun _ _ _ h => h) (Or.inr ⟨by rfl, rfl⟩) hHeld ?_
          try simp only [Act.put, List.setIfInBounds_toArray, List.set_cons_zero, List.set_cons_succ]
          refine wpAnyH_take (i := 21) (by simp only [List.getElem?_toArray, List.getElem?_cons_succ, List.getElem?_cons_zero]; rfl) (by kernel_rfl) (by kernel_rfl) (by kernel_rfl) (by exact fun _ _ _ h => h) (Or.inr ⟨by rfl, rfl⟩) hHeld ?_
          try simp only [Act.put, List.setIfInBounds_toArray, List.set_cons_zero, List.set_cons_succ]
          refine wpAnyH_take (i := 22) (by simp only [List.getElem?_toArray, List.getElem?_cons_succ, List.getElem?_cons_zero]; rfl) (by kernel_rfl) (by kernel_rfl) (by kernel_rfl) (by exact fun _ _ _ h => h) (Or.inr ⟨by rfl, rfl⟩) hHeld ?_
          try simp only [Act.put, List.setIfInBounds_toArray, List.set_cons_zero, List.set_cons_succ]
          refine wpAnyH_take (i := 23) (by simp only [List.getElem?_toArray, List.getElem?_cons_succ, List.getElem?_cons_zero]; rfl) (by kernel_rfl) (by kernel_rfl) (by kernel_rfl) (by exact fun _ _ _ h => h) (Or.inr ⟨by rfl, rfl⟩) hHeld ?_
          try simp only [Act.put, List.setIfInBounds_toArray, List.set_cons_zero, List.set_cons_succ]
          refine wpAnyH_take (i := 24) (by simp only [List.getElem?_toArray, List.getElem?_cons_succ, List.getElem?_cons_zero]; rfl) (by kernel_rfl) (by kernel_rfl) (by kernel_rfl) (by exact fun _ _ _ h => h) (Or.inr ⟨by rfl, rfl⟩) hHeld ?_
          try simp only [Act.put, List.setIfInBounds_toArray, List.set_cons_zero, List.set_cons_succ]
          refine wpAnyH_take (i := 25) (by simp only [List.getElem?_toArray, List.getElem?_cons_succ, List.getElem?_cons_zero]; rfl) (by kernel_rfl) (by kernel_rfl) (by kernel_rfl) (by exact fun _ _ _ h => h) (Or.inr ⟨by rfl, rfl⟩) hHeld ?_
          try simp only [Act.put, List.setIfInBounds_toArray, List.set_cons_zero, List.set_cons_succ]
          refine wpAnyH_take (i := 26) (by simp only [List.getElem?_toArray, List.getElem?_cons_succ, List.getElem?_cons_zero]; rfl) (by kernel_rfl) (by kernel_rfl) (by kernel_rfl) (by exact fun _ _ _ h => h) (Or.inr ⟨by rfl, rfl⟩) hHeld ?_
          try simp only [Act.put, List.setIfInBounds_toArray, List.set_cons_zero, List.set_cons_succ]
          refine wpAnyH_take (i := 27) (v := ?fv27) (by simp only [List.getElem?_toArray, List.getElem?_cons_succ, List.getElem?_cons_zero]; rfl) (by kernel_rfl) (by kernel_rfl) (by kernel_rfl) (by exact fun _ _ _ h => h) (Or.inl ⟨by rfl, ?fy27⟩) hHeld ?_
          case fy27 => (intro w hSw; (try dsimp only at hSw); obtain ⟨hs1, hs2, hs3, hs4⟩ := hSw; clear hs4; go_simp; try (with_reducible rfl))
          try simp only [Act.put, List.setIfInBounds_toArray, List.set_cons_zero, List.set_cons_succ]
          refine wpAnyH_take (i := 28) (v := ?fv28) (by simp only [List.getElem?_toArray, List.getElem?_cons_succ, List.getElem?_cons_zero]; rfl) (by kernel_rfl) (by kernel_rfl) (by kernel_rfl) (by exact fun _ _ _ h => h) (Or.inl ⟨by rfl, ?fy28⟩) hHeld ?_
          case fy28 => (intro w hSw; (try dsimp only at hSw); obtain ⟨hs1, hs2, hs3, hs4⟩ := hSw; clear hs4; go_simp; try (with_reducible rfl))
          try simp only [Act.put, List.setIfInBounds_toArray, List.set_cons_zero, List.set_cons_succ]
          refine wpAnyH_done (by kernel_rfl) ?_ _
          go_wp2_with (refine wpList_load_mid rfl 35 (.tmp 95) rfl w6.heap.size 1 rfl _ _ (p1.flags) Tryd.underlying35 rfl flag_size ?_)
          go_loopw [18, 97] (fun nn k wz => ∃ i : Nat, i ≤ 32 ∧ k = .int .i64 i ∧ nn = .int .i64 (cnt by_ i : Nat) ∧ wz = w7) (fun _ k _ => 32 - (intOf k).toNat)
          case atStart => exact ⟨0, Nat.zero_le _, rfl, rfl, rfl⟩
          case round =>
            obtain ⟨i, hi, rfl, rfl, rfl⟩ := hrel
            by_cases hi2 : i < 32
            · have hle := cnt_le by_ i
              have hsuc : cnt by_ (i + 1) = cnt by_ i + (if by_.testBit i = true then 1 else 0) := rfl
              obtain ⟨N, hN⟩ : ∃ N, N = cnt by_ i := ⟨_, rfl⟩
              rw [← hN] at hle hsuc ⊢
              have hidx := run_index_flags by_.testBit i hi2
              have ei : (i : Int) < 32 := by omega
              clear hN
              cases hbit : by_.testBit i with
              | true =>
                rw [hbit] at hidx hsuc
                rw [if_pos rfl] at hsuc
                have HSU := Lib.hid hsuc
                clear hbit hsuc
                go_wp2_with fail
                go_roundw
                case rel => exact ⟨i + 1, by omega, by go_num, by rw [HSU.out]; go_num, trivial⟩
                case measure => simp [intOf]; omega
              | false =>
                rw [hbit] at hidx hsuc
                rw [if_neg (by simp)] at hsuc
                have HSU := Lib.hid hsuc
                clear hbit hsuc
                go_wp2_with fail
                go_roundw
                case rel => exact ⟨i + 1, by omega, by go_num, by rw [HSU.out]; go_num, trivial⟩
                case measure => simp [intOf]; omega
            · obtain rfl : i = 32 := by omega
              obtain ⟨C, hC⟩ : ∃ C, C = cnt by_ 32 := ⟨_, rfl⟩
              rw [← hC] at HA ⊢
              obtain ⟨d0, d1⟩ := And.intro p0.c0 p0.c1
              clear hC
              go_wp2_with fail
              refine (HA _).mono ?_
              rintro e w9 ⟨rfl, hb9⟩
              have K := K.ext hb9
              have p0 := p0.ext hb9
              have p1 := p1.ext hb9
              have hS9 := And.intro p0.c0 (And.intro p0.c1 p1)
              have K9 := K.drew.stored hz hz12 HTW.out HSW.out bx by_
              obtain ⟨c00, c01⟩ := And.intro K.a.c0 K.a.c1
              obtain ⟨f00, f01⟩ := And.intro (K.a.f 0) (K.a.f 1)
              have p2 := (p0.other (p := ⟨w1.heap.size, 0, none⟩) (by simp; omega) (.int .u16 (bx : Int))).other (p := ⟨w1.heap.size, 1, none⟩) (by simp; omega) (.int .u32 (by_ : Int))
              have p3 := (p1.other (p := ⟨w1.heap.size, 0, none⟩) (by simp; omega) (.int .u16 (bx : Int))).other (p := ⟨w1.heap.size, 1, none⟩) (by simp; omega) (.int .u32 (by_ : Int))
              have hS10 := And.intro p2.c0 (And.intro p2.c1 p3)
              have hg10 := (K.r.other (p := ⟨w1.heap.size, 0, none⟩) (by simp; omega) (.int .u16 (bx : Int))).other (p := ⟨w1.heap.size, 1, none⟩) (by simp; omega) (.int .u32 (by_ : Int))
              have p4 : Box2 _ w5.heap.size _ _ := (setRow_other _ w2.heap.size w5.heap.size (raF bx by_.testBit) (by omega)).trans p2
              have p5 := p3.orow (g' := w2.heap.size) (by omega) (raF bx by_.testBit)
              have hS11 := And.intro p4.c0 (And.intro p4.c1 p5)
              clear hb9 d0 d1 p2 p3 p4 p5
              go_wp2_with fail
              refine wp_region_held_drew (S := fun w' => w'.cell? ⟨w5.heap.size, 0, none⟩ = some (.int .u16 (bx : Int)) ∧ w'.cell? ⟨w5.heap.size, 1, none⟩ = some (.int .u32 (by_ : Int)) ∧ BoxR w' w6.heap.size bx by_.testBit) (by kernel_rfl) ?_ (fun hHeld => ?_)
              · exact hS9
              refine wpAnyH_take (i := 0) (v := ?hv0) (by simp only [List.getElem?_toArray, List.getElem?_cons_zero]; rfl) (by kernel_rfl) (by kernel_rfl) (by kernel_rfl) (by exact fun _ _ _ h => h) (Or.inl ⟨by rfl, ?hy0⟩) hHeld ?_
              case hy0 => (intro w hSw; (try dsimp only at hSw); obtain ⟨hs1, hs2, hs3⟩ := hSw; clear hs3; go_simp; try (with_reducible rfl))
              try simp only [Act.put, List.setIfInBounds_toArray, List.set_cons_zero, List.set_cons_succ]
              refine wpAnyH_take (i := 1) (by simp only [List.getElem?_toArray, List.getElem?_cons_succ, List.getElem?_cons_zero]; rfl) (by kernel_rfl) (by kernel_rfl) (by kernel_rfl) (by exact fun _ _ _ h => h) (by exact yieldsIf_load_ra (by rfl) _ rfl _ rfl _ _ (fun w h => h.2.2)) hHeld ?_
              try simp only [Act.put, List.setIfInBounds_toArray, List.set_cons_zero, List.set_cons_succ]
              refine wpAnyH_ready (rs := [2]) (by kernel_rfl) (by simp) ?_
              refine AllReadyH.cons (by simp only [List.getElem?_toArray, List.getElem?_cons_succ, List.getElem?_cons_zero]; rfl) (fun KK hKK => ?_) AllReadyH.nil
              go_simp
              refine hKK.out _ _ ?_ (fun hHeld => ?_)
              · exact hS10
              clear hKK KK
              try simp only [Act.put, List.setIfInBounds_toArray, List.set_cons_zero, List.set_cons_succ]
              refine wpAnyH_ready (rs := [3]) (by kernel_rfl) (by simp) ?_
              refine AllReadyH.cons (by simp only [List.getElem?_toArray, List.getElem?_cons_succ, List.getElem?_cons_zero]; rfl) (fun KK hKK => ?_) AllReadyH.nil
              rw [if_pos (by rfl)]
              refine wp_store_row 37 (.tmp 10) (.tmp 109) rfl w2.heap.size (raF bx by_.testBit) rfl rfl _ _ hg10 (ra_size _ _) (by rw [raF_size, raF_size]) (raF_all _ _) ?_
              refine hKK.out _ _ ?_ (fun hHeld => ?_)
              · exact hS11
              clear hKK KK
              try simp only [Act.put]
              refine wpAnyH_done (by kernel_rfl) ?_ _
              go_wp2_with fail
              go_roundw
              case rel => exact ⟨j + 1, bx, by_, by omega, by omega, by go_num, hbx, hby, K9⟩
              case measure => simp [intOf]; omega
      · have hge : (80 : Int) ≤ (j : Int) := by omega
        go_wp2_with fail
        go_ret
        exact ⟨rfl, K.h⟩
    · obtain rfl : n = j := by omega
      go_wp2_with fail
      go_ret
      exact ⟨rfl, K.h⟩
theorem OrderNotes_walk (next bits : Nat) (A : Option Addr) (l : List Nat) (n c b : Nat) (far : Bool) (w : World) (hTab : Tab w) (hx : next ≤ 65535) (hy : bits ≤ 4294967295) (hs : Sl w b A (us l)) (hn : l.length = n) (_hnm : n ≤ maxLen) (h16 : ∀ y ∈ l, y < 65536) :
    Calls Tryd.prog 4 #[.int .u16 next, .int .u32 bits, .slice A n c, .bool far] w fun e w' => e = .returned (.bool true) ∧ Below w.heap.size w w' := by
  cases far with
  | true => exact OrderNotes_true next bits A l n c b w hTab (by omega) (by omega) hs hn h16
  | false => exact OrderNotes_false next bits A l n c b w hTab (by omega) (by omega) hs hn h16
end Go.Proofs.YtdkfmgadipfipaaDoor
