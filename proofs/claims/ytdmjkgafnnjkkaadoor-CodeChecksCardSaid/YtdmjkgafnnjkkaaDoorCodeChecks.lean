/- CodeChecks: the walk. Conditions: the list is no longer than may be; the numbers fit; the tables lie. -/
import Derived.Test.YtdmjkgafnnjkkaaDoorCodeK2
namespace Go.Proofs.YtdmjkgafnnjkkaaDoor
open Go.RowKit

theorem okK_take {l : List Cd} (h : okK l) (k : Nat) : okK (l.take k) := fun c hc => h c (List.mem_of_mem_take hc)
theorem checkV_le (l : List Cd) (cells players : Int) : (checkV l cells players).1 ≤ 96 ∧ ((checkV l cells players).2 = true → (checkV l cells players).1 = 0) := by
  unfold checkV
  split
  · simp
  · split
    · simp only; exact ⟨by omega, fun h => by cases h⟩
    · simp
set_option maxHeartbeats 16000000 in
set_option maxRecDepth 20000 in
theorem CodeChecks_walk (A : Option Addr) (L : List Cd) (n c b : Nat) (cells players : Int) (w : World) (hT : AllT w) (hs : Sl w b A (kv L)) (hn : L.length = n) (_hm : n ≤ maxLen) (hnc : n ≤ c) (hok : okK L) (hcl : -9223372036854775808 ≤ cells ∧ cells ≤ 9223372036854775807) (_hpl : -9223372036854775808 ≤ players ∧ players ≤ 9223372036854775807) :
    Calls Tryd.prog 3 #[.slice A n c, .int .i64 cells, .int .i64 players] w fun e w' => e = .returned (.bool true) ∧ Below w.heap.size w w' := by
  have hF := fun W h => Few_calls A L n c b W h hn hnc
  obtain ⟨M, hM⟩ : ∃ M, M = L.take 110 := ⟨_, rfl⟩
  have hML : M.length ≤ 110 := by rw [hM, List.length_take]; omega
  have hMo : okK M := by rw [hM]; exact okK_take hok 110
  rw [← hM] at hF
  clear hM hok hn
  have hmx : M.length ≤ maxLen := by simp only [maxLen]; omega
  have hCk := fun W A c b h hT => Check_calls A M M.length c b cells players W h rfl hmx hMo hcl.1 hcl.2 hT
  have hRk := fun W A c b h => RCheck_calls A M M.length c b cells players W h rfl hmx hMo hcl.1 hcl.2
  have hRt := fun W A c b h hT => Right_calls A M M.length c b cells players W h rfl hmx hMo hcl.1 hcl.2 hT
  have hOw := fun W A c b h => Own_calls A M M.length c b W h rfl (by omega)
  have hRe := fun W A c b h => Reals_calls A M M.length c b W h rfl (by omega)
  have hv := checkV_le M cells players
  obtain ⟨V, hV⟩ : ∃ V, V = checkV M cells players := ⟨_, rfl⟩
  rw [← hV] at hCk hRk hRt hv
  obtain ⟨k0, d⟩ := V
  simp only at hCk hRk hRt hv
  obtain ⟨Z, hZ⟩ : ∃ Z : Int, Z = (if d = true then -1 else ((k0 : Nat) : Int)) := ⟨_, rfl⟩
  rw [← hZ] at hRk
  have hz1 : decide (Z < 0) = d := by rw [hZ]; cases d <;> simp <;> omega
  have hz2 : (if 0 < Z then Z else 0) = (k0 : Int) := by
    rw [hZ]
    cases d with
    | true => have := hv.2 rfl; simp; omega
    | false => simp; omega
  have hz3 : max Z 0 = (k0 : Int) := by
    rw [hZ]
    cases d with
    | true => have := hv.2 rfl; simp; omega
    | false => simp
  have hz4 : (if Z < 0 then 0 else Z) = (k0 : Int) := by
    rw [hZ]
    cases d with
    | true => have := hv.2 rfl; simp; omega
    | false => simp only [Bool.false_eq_true, if_false]; rw [if_neg (by omega)]
  have hdd : (d == d) = true := by simp
  obtain ⟨RN, hRN⟩ : ∃ RN, RN = realsN M := ⟨_, rfl⟩
  rw [← hRN] at hRe
  have HRN := Lib.hid hRN
  clear hV hZ hv hRN
  go_enter Tryd.func3, Tryd.ntmps3
  go_wp2_with fail
  refine (Awake_calls _ hT).mono ?_
  rintro e w1 ⟨rfl, hb⟩
  replace hT := hT.ext hb
  replace hs := Sl.ext hs hb
  go_wp2_with fail
  refine (hF _ hs).mono ?_
  rintro e w2 ⟨v, rfl, hrow, h9⟩
  replace hT := hT.ext h9
  replace hb := hb.trans (h9.mono hb.size)
  obtain ⟨A2, c2, b2, rfl, -, -, -, -, hs2, -⟩ := hrow.sl
  clear h9 hrow hF hs
  go_wp2_with fail
  refine (hCk _ A2 c2 b2 hs2 hT.c).mono ?_
  rintro e w3 ⟨rfl, h9⟩
  replace hT := hT.ext h9
  replace hb := hb.trans (h9.mono hb.size)
  replace hs2 := Sl.ext hs2 h9
  clear h9 hCk
  go_wp2_with fail
  refine (hOw _ A2 c2 b2 hs2).mono ?_
  rintro e w4 ⟨v, rfl, hrow, h9⟩
  replace hT := hT.ext h9
  replace hb := hb.trans (h9.mono hb.size)
  replace hs2 := Sl.ext hs2 h9
  obtain ⟨A3, c3, b3, rfl, -, -, -, -, hs3, -⟩ := hrow.sl
  clear h9 hrow hOw
  go_wp2_with fail
  refine (hRk _ A3 c3 b3 hs3).mono ?_
  rintro e w5 ⟨rfl, h9⟩
  replace hT := hT.ext h9
  replace hb := hb.trans (h9.mono hb.size)
  replace hs2 := Sl.ext hs2 h9
  clear h9 hRk hs3
  go_wp2_with fail
  go_loopw [10, 31] (fun out i wr => ∃ k : Nat, k ≤ M.length ∧ i = .int .i64 k ∧ out = .int .i64 (realsN (M.take k) : Nat) ∧ Sl wr b2 A2 (kv M) ∧ AllT wr ∧ Below w.heap.size w wr) (fun _ i _ => M.length - (intOf i).toNat)
  case atStart => exact ⟨0, Nat.zero_le _, rfl, rfl, hs2, hT, hb⟩
  case round =>
    clear hs2 hT hb
    obtain ⟨k, hk, rfl, rfl, hs, hT, hb⟩ := hrel
    by_cases hlt : k < M.length
    · have ej : (k : Int) < (M.length : Int) := by omega
      have hle := reals_le (M.take k)
      rw [List.length_take] at hle
      obtain ⟨off, rfl, c0, c1, c2', c3', c4, c5⟩ := sl_code hs hlt
      have hnx := reals_next hlt
      obtain ⟨R, hR⟩ : ∃ R, R = realsN (M.take k) := ⟨_, rfl⟩
      obtain ⟨x, hx⟩ : ∃ x, x = M[k] := ⟨_, rfl⟩
      rw [← hx] at c0 c1 c2' c3' c4 c5 hnx
      rw [← hR] at hnx hle
      simp only [← hR]
      clear hx hR
      obtain ⟨op, a, b', cc, n, m⟩ := x
      simp only at c0 c1 c2' c3' c4 c5 hnx
      have hw := IntWalk.i64_in ((R : Int) + 1) (by omega)
      have hba := below_alloc1 wr (.cells #[.int .u8 (op : Int), .int .u8 (a : Int), .int .u8 (b' : Int), .int .u8 (cc : Int), .int .i32 n, .int .u32 (m : Int)] 33)
      have hs2 := Sl.ext hs hba
      have hT2 := hT.ext hba
      have hb2 := hb.trans (hba.mono hb.size)
      clear hs hb hT hba
      by_cases h22 : op = 22
      · have e22 : ((op : Int) == 22) = true := by rw [beq_iff_eq]; omega
        rw [if_pos h22] at hnx
        have HN := Lib.hid hnx
        clear hnx h22
        go_wp2_with fail
        go_roundw
        case rel => exact ⟨k + 1, by omega, by go_num, by rw [HN.out]; go_num, hs2, hT2, hb2⟩
        case measure => simp [intOf]; omega
      · have e22 : ((op : Int) == 22) = false := by rw [beq_eq_false_iff_ne]; omega
        rw [if_neg h22] at hnx
        have HN := Lib.hid hnx
        clear hnx h22
        go_wp2_with fail
        go_roundw
        case rel => exact ⟨k + 1, by omega, by go_num, by rw [HN.out]; rfl, hs2, hT2, hb2⟩
        case measure => simp [intOf]; omega
    · obtain rfl : k = M.length := by omega
      have hl : realsN (M.take M.length) = RN := by rw [List.take_length, HRN.out]
      rw [hl]
      clear hl
      go_wp2_with fail
      refine (hRt _ A2 c2 b2 hs hT.c).mono ?_
      rintro e w6 ⟨rfl, h9⟩
      replace hb := hb.trans (h9.mono hb.size)
      replace hs := Sl.ext hs h9
      clear h9 hRt
      go_wp2_with fail
      refine (hRe _ A2 c2 b2 hs).mono ?_
      rintro e w7 ⟨rfl, h9⟩
      replace hb := hb.trans (h9.mono hb.size)
      clear h9 hRe hs
      go_wp2_with fail
      go_ret
      exact ⟨rfl, hb⟩
end Go.Proofs.YtdmjkgafnnjkkaaDoor
