/- What an instruction may be: the small calls of Check. Conditions: the numbers fit. -/
import Derived.Test.YtglmciklegifaaaDoorCodeTV
import Derived.Test.YtglmciklegifaaaDoorBox
import Derived.BigGuardPart
namespace Go.Proofs.YtglmciklegifaaaDoor
open Go.RowKit

/-- An instruction. -/
structure Cd where
  op : Nat
  a : Nat
  b : Nat
  c : Nat
  n : Int
  m : Nat
structure Cd.Ok (x : Cd) : Prop where
  ho : x.op ≤ 255
  ha : x.a ≤ 255
  hb : x.b ≤ 255
  hc : x.c ≤ 255
  n0 : -2147483648 ≤ x.n
  n1 : x.n ≤ 2147483647
  hm : x.m ≤ 4294967295
def cdA (c : Cd) : Array Value := #[.int .u8 (c.op : Int), .int .u8 (c.a : Int), .int .u8 (c.b : Int), .int .u8 (c.c : Int), .int .i32 c.n, .int .u32 (c.m : Int)]
def regB (b : Nat) (u : Bool) : Bool := b == 0 || (u && decide (b < 8))
def belowB (n many : Int) : Bool := decide (0 ≤ n) && decide (n < many)
def holdsB (cells places players : Int) (k : Nat) (n : Int) : Bool :=
  if k = 1 then true else if k = 2 then decide (1 ≤ n) else if k = 3 then belowB n cells else if k = 4 then belowB n places else if k = 5 then belowB n players else n == 0
def rowB (c : Nat) (cells n : Int) : Bool := decide (1 ≤ c) && (decide (c ≤ 48) && decide ((c : Int) ≤ cells - n))
def uB (j k : Nat) : Bool := (useAt j).testBit k
def fitsB (c : Cd) (cells places players : Int) : Bool :=
  decide (c.op < 26) && (regB c.a (uB c.op 0) && (regB c.b (uB c.op 1) && (holdsB cells places players (numAt c.op) c.n && ((if uB c.op 3 then rowB c.c cells c.n else regB c.c (uB c.op 2)) && (c.m == 0 || uB c.op 4)))))
theorem register_calls (b : Nat) (u : Bool) (w : World) : Calls Tryd.prog 63 #[.int .u8 (b : Int), .bool u] w fun e w' => e = .returned (.bool (regB b u)) ∧ w' = w := by
  by_cases h0 : b = 0
  · subst h0
    go_enter Tryd.func63, Tryd.ntmps63
    go_wp2
    go_ret
    exact ⟨by simp [regB], rfl⟩
  · have e0 : ((b : Int) == 0) = false := by rw [beq_eq_false_iff_ne]; omega
    have hr : regB b u = (u && decide (b < 8)) := by
      unfold regB
      rw [show (b == 0) = false by rw [beq_eq_false_iff_ne]; exact h0, Bool.false_or]
    rw [hr]
    clear hr h0
    cases u with
    | false =>
      go_enter Tryd.func63, Tryd.ntmps63
      go_wp2
      go_ret
      exact ⟨rfl, rfl⟩
    | true =>
      obtain ⟨d, hd⟩ : ∃ d, d = decide (b < 8) := ⟨_, rfl⟩
      have e1 : decide ((b : Int) < 8) = d := by rw [hd]; simp; omega
      rw [← hd]
      clear hd
      go_enter Tryd.func63, Tryd.ntmps63
      go_wp2
      go_ret
      exact ⟨by simp, rfl⟩
theorem below_calls (n many : Int) (w : World) (_h0 : -2147483648 ≤ n) (_h1 : n ≤ 2147483647) : Calls Tryd.prog 68 #[.int .i32 n, .int .i64 many] w fun e w' => e = .returned (.bool (belowB n many)) ∧ w' = w := by
  have hw := IntWalk.i64_in n (by omega)
  by_cases h0 : 0 ≤ n
  · have e0 : decide (n ≥ 0) = true := by simp; omega
    obtain ⟨d, hd⟩ : ∃ d, d = decide (n < many) := ⟨_, rfl⟩
    have e1 := hd.symm
    have hr : belowB n many = d := by rw [hd]; simp [belowB, h0]
    rw [hr]
    clear hr hd h0
    go_enter Tryd.func68, Tryd.ntmps68
    go_wp2
    go_ret
    exact ⟨by simp, rfl⟩
  · have e0 : decide (n ≥ 0) = false := by simp; omega
    have hr : belowB n many = false := by simp [belowB, h0]
    rw [hr]
    clear hr h0
    go_enter Tryd.func68, Tryd.ntmps68
    go_wp2
    go_ret
    exact ⟨by simp, rfl⟩
theorem holds_calls (cells places players : Int) (k : Nat) (n : Int) (w : World) (h0 : -2147483648 ≤ n) (h1 : n ≤ 2147483647) :
    Calls Tryd.prog 64 #[.agg #[.int .i64 cells, .int .i64 places, .int .i64 players], .int .u8 (k : Int), .int .i32 n] w fun e w' => e = .returned (.bool (holdsB cells places players k n)) ∧ Below w.heap.size w w' := by
  have hb := below_alloc1 w (.cells #[.int .i64 cells, .int .i64 places, .int .i64 players] 110)
  have c0 := fun W => below_calls n cells W h0 h1
  have c1 := fun W => below_calls n places W h0 h1
  have c2 := fun W => below_calls n players W h0 h1
  unfold holdsB
  by_cases k1 : k = 1
  · subst k1
    rw [if_pos rfl]
    go_enter Tryd.func64, Tryd.ntmps64
    go_wp2
    go_ret
    exact ⟨by simp, hb⟩
  rw [if_neg k1]
  have e1 : ((k : Int) == 1) = false := by rw [beq_eq_false_iff_ne]; omega
  by_cases k2 : k = 2
  · subst k2
    rw [if_pos rfl]
    obtain ⟨d, hd⟩ : ∃ d, d = decide (1 ≤ n) := ⟨_, rfl⟩
    have ed : decide (n ≥ 1) = d := hd.symm
    rw [← hd]
    clear hd
    go_enter Tryd.func64, Tryd.ntmps64
    go_wp2
    go_ret
    exact ⟨by simp, hb⟩
  rw [if_neg k2]
  have e2 : ((k : Int) == 2) = false := by rw [beq_eq_false_iff_ne]; omega
  by_cases k3 : k = 3
  · subst k3
    rw [if_pos rfl]
    obtain ⟨d, hd⟩ : ∃ d, d = belowB n cells := ⟨_, rfl⟩
    rw [← hd] at c0 ⊢
    clear hd c1 c2 e1 e2
    go_enter Tryd.func64, Tryd.ntmps64
    go_wp2_with fail
    refine (c0 _).mono ?_
    rintro e w' ⟨rfl, hw⟩
    have hw := hw.symm
    subst hw
    go_wp2
    go_ret
    exact ⟨rfl, hb⟩
  rw [if_neg k3]
  have e3 : ((k : Int) == 3) = false := by rw [beq_eq_false_iff_ne]; omega
  by_cases k4 : k = 4
  · subst k4
    rw [if_pos rfl]
    obtain ⟨d, hd⟩ : ∃ d, d = belowB n places := ⟨_, rfl⟩
    rw [← hd] at c1 ⊢
    clear hd c0 c2 e1 e2 e3
    go_enter Tryd.func64, Tryd.ntmps64
    go_wp2_with fail
    refine (c1 _).mono ?_
    rintro e w' ⟨rfl, hw⟩
    have hw := hw.symm
    subst hw
    go_wp2
    go_ret
    exact ⟨rfl, hb⟩
  rw [if_neg k4]
  have e4 : ((k : Int) == 4) = false := by rw [beq_eq_false_iff_ne]; omega
  by_cases k5 : k = 5
  · subst k5
    rw [if_pos rfl]
    obtain ⟨d, hd⟩ : ∃ d, d = belowB n players := ⟨_, rfl⟩
    rw [← hd] at c2 ⊢
    clear hd c0 c1 e1 e2 e3 e4
    go_enter Tryd.func64, Tryd.ntmps64
    go_wp2_with fail
    refine (c2 _).mono ?_
    rintro e w' ⟨rfl, hw⟩
    have hw := hw.symm
    subst hw
    go_wp2
    go_ret
    exact ⟨rfl, hb⟩
  rw [if_neg k5]
  have e5 : ((k : Int) == 5) = false := by rw [beq_eq_false_iff_ne]; omega
  obtain ⟨d, hd⟩ : ∃ d, d = (n == 0) := ⟨_, rfl⟩
  have ed := hd.symm
  rw [← hd]
  clear hd c0 c1 c2
  go_enter Tryd.func64, Tryd.ntmps64
  go_wp2
  go_ret
  exact ⟨by simp, hb⟩
/-- What the bits of an operation's use are. -/
theorem use_bits : ∀ j : Fin 26, (bits .and .u8 (useAt j.val : Int) 1 != 0) = uB j.val 0 ∧ (bits .and .u8 (useAt j.val : Int) 2 != 0) = uB j.val 1 ∧ (bits .and .u8 (useAt j.val : Int) 4 != 0) = uB j.val 2 ∧ (bits .and .u8 (useAt j.val : Int) 8 == 0) = !(uB j.val 3) ∧ (bits .and .u8 (useAt j.val : Int) 16 != 0) = uB j.val 4 := by decide +kernel
/-- Where C counts cells, N is a cell. -/
theorem use_row : ∀ j : Fin 26, uB j.val 3 = true → numAt j.val = 3 := by decide +kernel
end Go.Proofs.YtglmciklegifaaaDoor
