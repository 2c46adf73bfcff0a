/- Places of moves as a map's keys; a map of moves, told by what stands at each place. Conditions: those said. -/
import Derived.Test.YtglmciklegifaaaDoorRuC
import Derived.Test.YtglmciklegifaaaDoorOpen0
import Derived.Maps.RangeWalk
import Derived.Maps.Ext
import Derived.WalkArith
namespace Go.Proofs.YtglmciklegifaaaDoor
open Go.RowKit
open Go.Maps (Keyed IsMap Tidy)

def skey (p : Int) (t : Nat) : Lit := .string (keyBytes [.int .i64 p, .int .u32 (t : Int)])
abbrev slotV (p : Int) (t : Nat) : Value := .agg #[.int .i64 p, .int .u32 (t : Int)]
def inI (p : Int) : Prop := -9223372036854775808 ≤ p ∧ p ≤ 9223372036854775807
theorem slot_row : (75 : TypeId) < Tryd.prog.types.size := of_decide_eq_true (by kernel_rfl)
theorem slot_wide : (match Tryd.prog.underlying 75 with | some (.array _ _) | some (.struct _) => true | _ => false) = true := by kernel_rfl
theorem slot_at : Tryd.prog.keyTypeAt 2 75 = true := by kernel_rfl
theorem three_le : 2 + 1 ≤ 10000 := of_decide_eq_true (by kernel_rfl)
set_option maxRecDepth 100000 in
theorem slot_law : Keyed Tryd.prog 75 := Keyed.of_law (deep_law_laid (m := 2) laidOut three_le slot_row slot_at slot_wide)
theorem slot_kt : Tryd.prog.keyType 75 = true := by kernel_rfl
theorem slot_cells : Tryd.prog.cellsOf 75 = 2 := by kernel_rfl
theorem int_cells : Tryd.prog.cellsOf 3 = 1 := by kernel_rfl
theorem u32_cells : Tryd.prog.cellsOf 22 = 1 := by kernel_rfl
theorem types_succ : ∃ m, Tryd.prog.types.size + 1 = m + 1 + 1 := by
  obtain ⟨k, hk⟩ := Nat.exists_eq_succ_of_ne_zero (Nat.ne_of_gt (Nat.lt_of_le_of_lt (Nat.zero_le _) slot_row))
  exact ⟨k, by rw [hk]⟩
theorem slot_struct : ∃ fs, Tryd.prog.underlying 75 = some (.struct fs) ∧ fs.all (·.name != "_") = true ∧ fs.toList.map (fun f => (f.type, f.offset)) = [(3, 0), (22, 1)] := ⟨_, Tryd.underlying75, by kernel_rfl, by kernel_rfl⟩
def both : Option (List Lit) → Option (List Lit) → Option (List Lit)
  | some x, some y => some (x ++ y)
  | _, _ => none
set_option maxRecDepth 100000 in
theorem keyLits_slot {M : Nat} (a b : Value) (X Y : Option (List Lit)) (hX : Tryd.prog.keyLits M 3 [a] = X) (hY : Tryd.prog.keyLits M 22 [b] = Y) :
    Tryd.prog.keyLits (M + 1) 75 [a, b] = both X Y := by
  obtain ⟨fs, hu, hn, hf⟩ := slot_struct
  obtain ⟨f0, f1, hfs⟩ : ∃ f0 f1, fs.toList = [f0, f1] := by
    match h : fs.toList with
    | [] => rw [h] at hf; simp at hf
    | [x] => rw [h] at hf; simp at hf
    | [x, y] => exact ⟨x, y, rfl⟩
    | x :: y :: z :: r => rw [h] at hf; simp at hf
  rw [hfs] at hf
  simp only [List.map_cons, List.map_nil, List.cons.injEq, Prod.mk.injEq, and_true] at hf
  obtain ⟨⟨h1, h2⟩, h3, h4⟩ := hf
  unfold Program.keyLits
  rw [hu]
  dsimp only
  rw [if_pos ⟨by rw [slot_cells]; rfl, hn⟩, hfs]
  simp only [List.mapM_cons, List.mapM_nil, h1, h2, h3, h4, int_cells, u32_cells, List.drop_zero, List.take_succ_cons, List.take_zero, List.drop_succ_cons, hX, hY]
  cases X with
  | none => rfl
  | some x => cases Y with
    | none => rfl
    | some y => simp [both]
theorem keyLits_one {m : Nat} {t : TypeId} {q : IntKind} (hu : Tryd.prog.underlying t = some (.int q)) (a : Value) (l : List Lit) : Tryd.prog.keyLits (m + 1) t [a] = some l ↔ ∃ p, a = .int q p ∧ (Lit.int q p).wf = true ∧ l = [.int q p] := by
  unfold Program.keyLits
  rw [hu]
  cases a <;> simp
  rename_i q' n
  constructor
  · rintro ⟨⟨rfl, hw⟩, rfl⟩
    exact ⟨_, ⟨rfl, rfl⟩, hw, rfl⟩
  · rintro ⟨p, ⟨rfl, rfl⟩, hw, rfl⟩
    exact ⟨⟨rfl, hw⟩, rfl⟩
theorem agg_formed (cs : Array Value) : (Value.agg cs).formed Tryd.prog 75 = (cs.size == 2) := by
  obtain ⟨fs, hu, _, _⟩ := slot_struct
  simp [Value.formed, hu, slot_cells]
theorem keyOf_slotT (v : Value) : keyOf Tryd.prog 75 v = if Tryd.prog.keyType 75 && v.formed Tryd.prog 75 then (Tryd.prog.keyLits (Tryd.prog.types.size + 1) 75 v.cells.toList).map fun ls => .string (keyBytes ls) else none := by
  obtain ⟨fs, hu, _, _⟩ := slot_struct
  unfold keyOf
  rw [hu]
theorem slot_key {p : Int} {t : Nat} (hp : inI p) (ht : t < 4294967296) : keyOf Tryd.prog 75 (slotV p t) = some (skey p t) := by
  rw [keyOf_slotT, if_pos (by rw [slot_kt, agg_formed]; rfl)]
  obtain ⟨m, hm⟩ := types_succ
  rw [hm]
  show (Tryd.prog.keyLits (m + 1 + 1) 75 [.int .i64 p, .int .u32 (t : Int)]).map _ = _
  rw [keyLits_slot _ _ _ _ ((keyLits_one Tryd.underlying3 _ _).2 ⟨p, rfl, WalkArith.wf_i64 hp, rfl⟩) ((keyLits_one Tryd.underlying22 _ _).2 ⟨(t : Int), rfl, WalkArith.wf_u32 (by omega), rfl⟩)]
  rfl
theorem slot_inv {v : Value} {l : Lit} (h : keyOf Tryd.prog 75 v = some l) : ∃ p t, v = slotV p t ∧ inI p ∧ t < 4294967296 ∧ l = skey p t := by
  rw [keyOf_slotT] at h
  split at h
  · rename_i hc
    simp only [Bool.and_eq_true] at hc
    have hf := hc.2
    cases v with
    | agg cs =>
      rw [agg_formed] at hf
      have hsz : cs.size = 2 := by simpa using hf
      obtain ⟨a, b, hcs⟩ : ∃ a b, cs.toList = [a, b] := by
        match hl : cs.toList with
        | [] => rw [← Array.length_toList, hl] at hsz; cases hsz
        | [x] => rw [← Array.length_toList, hl] at hsz; cases hsz
        | [x, y] => exact ⟨x, y, rfl⟩
        | x :: y :: z :: r => rw [← Array.length_toList, hl] at hsz; simp at hsz
      obtain ⟨m, hm⟩ := types_succ
      rw [hm] at h
      have hcl : (Value.agg cs).cells.toList = [a, b] := hcs
      rw [hcl] at h
      cases hX : Tryd.prog.keyLits (m + 1) 3 [a] with
      | none => rw [keyLits_slot a b _ _ hX rfl] at h; cases h
      | some x =>
        cases hY : Tryd.prog.keyLits (m + 1) 22 [b] with
        | none => rw [keyLits_slot a b _ _ hX hY] at h; cases h
        | some y =>
          rw [keyLits_slot a b _ _ hX hY] at h
          obtain ⟨p, rfl, hp, rfl⟩ := (keyLits_one Tryd.underlying3 _ _).1 hX
          obtain ⟨t, rfl, ht, rfl⟩ := (keyLits_one Tryd.underlying22 _ _).1 hY
          have h1 := bounds_i64 hp
          have h2 := bounds_u32 ht
          obtain ⟨k, rfl⟩ := Int.eq_ofNat_of_zero_le h2.1
          injection h with h
          refine ⟨p, k, ?_, h1, by omega, h.symm⟩
          have : cs = #[.int .i64 p, .int .u32 (k : Int)] := by
            apply Array.toList_inj.1
            rw [hcs]
          rw [this]
    | _ => simp_all [Value.formed]
  · cases h
theorem skey_inj {p q : Int} {t u : Nat} (hp : inI p) (hq : inI q) (ht : t < 4294967296) (hu : u < 4294967296) (h : skey p t = skey q u) : p = q ∧ t = u := by
  have h1 := slot_key hp ht
  rw [h] at h1
  have := slot_law.inj h1 (slot_key hq hu)
  simp only [slotV, Value.agg.injEq] at this
  have h2 := congrArg Array.toList this
  simp at h2
  omega
theorem skey_ok {p : Int} {t : Nat} (hp : inI p) (ht : t < 4294967296) : WideAt.IsKeyLit (skey p t) := slot_law.key (slot_key hp ht)
end Go.Proofs.YtglmciklegifaaaDoor
