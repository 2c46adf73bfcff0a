/- The eye's Num and Blob; Left, Done, Read; a nil eye. -/
import Derived.Test.YtgpedkdebifooaaDoorEye
namespace Go.Proofs.YtgpedkdebifooaaDoor
open Go.RowKit

/-- A number off the front: its value, how many bytes; the byte at its head is number i of it. -/
def rd : Nat → List UInt8 → Option (Nat × Nat)
  | _, [] => none
  | i, x :: l =>
    if x.toNat < 128 then (if (0 < i ∧ x.toNat = 0) ∨ (i = 9 ∧ 1 < x.toNat) then none else some (x.toNat, 1))
    else if i = 9 then none else (rd (i + 1) l).map fun y => (x.toNat % 128 + 128 * y.1, y.2 + 1)

theorem u64_or_add (m q P i : Nat) (hP : P = 2 ^ i) (h : m < P) (hb : m + q * P < 18446744073709551616) : bits .or .u64 (m : Int) ((q : Int) * (P : Int)) = ((m + q * P : Nat) : Int) := by
  have e : ((q : Int) * (P : Int)) = ((q * P : Nat) : Int) := by simp
  rw [e, u64_or_nat m (q * P) (by omega) (by omega)]
  subst hP
  rw [or_add _ _ _ h]
set_option maxRecDepth 20000 in
theorem and127 (q : Nat) (hq : q < 256) : bits .and .u8 (q : Int) 127 = ((q % 128 : Nat) : Int) := by
  have h : ∀ x : Fin 256, x.val &&& 127 = x.val % 128 := by decide
  have e : (127 : Int) = ((127 : Nat) : Int) := rfl
  rw [e, u8_and_nat q 127 hq (by omega)]
  have := h ⟨q, hq⟩
  simp only at this
  rw [this]

/-- One byte more of a number. -/
theorem num_or (p q k : Nat) (hq : q < 256) (hp : p < 128 ^ k) (hb : p + 128 ^ k * (q % 128) < 18446744073709551616) :
    bits .or .u64 (p : Int) (IntKind.u64.wrap (IntKind.u64.wrap (bits .and .u8 (q : Int) 127) * 2 ^ (7 * k))) = ((p + 128 ^ k * (q % 128) : Nat) : Int) := by
  have hk : (128 : Nat) ^ k = 2 ^ (7 * k) := by rw [Nat.pow_mul]
  have hpw : (2 : Int) ^ (7 * k) = ((128 ^ k : Nat) : Int) := by rw [hk]; simp
  have e1 : IntKind.u64.wrap ((q % 128 : Nat) : Int) = ((q % 128 : Nat) : Int) := IntWalk.u64_in _ (by omega)
  have e : (((q % 128 : Nat) : Int) * ((128 ^ k : Nat) : Int)) = ((128 ^ k * (q % 128) : Nat) : Int) := by rw [Nat.mul_comm (128 ^ k)]; simp
  have e2 : IntKind.u64.wrap (((q % 128 : Nat) : Int) * ((128 ^ k : Nat) : Int)) = ((q % 128 : Nat) : Int) * ((128 ^ k : Nat) : Int) := IntWalk.u64_in _ (by rw [e]; omega)
  rw [and127 q hq, e1, hpw, e2, u64_or_add p (q % 128) (128 ^ k) (7 * k) hk hp (by rw [Nat.mul_comm]; exact hb), Nat.mul_comm (128 ^ k)]
theorem pow128_le (k : Nat) (hk : k < 9) : 128 ^ k * 128 ≤ 9223372036854775808 := by
  rw [← Nat.pow_succ]
  exact Nat.le_trans (Nat.pow_le_pow_right (by omega) (show k + 1 ≤ 9 by omega)) (by decide)

/-- What reading a number says. -/
def ReadNum (g b : Nat) (l : List UInt8) (bad : Bool) (most : Nat) (w : World) (e : Ending) (w' : World) : Prop :=
  (∀ v k, rd 0 l = some (v, k) → v ≤ most → e = .returned (.int .u64 (v : Nat)) ∧ EyeAt w' g b (l.drop k) bad) ∧
  ((∀ v k, rd 0 l = some (v, k) → ¬ v ≤ most) → e = .returned (.int .u64 0) ∧ EyeAt w' g b [] true) ∧ Mod (fun i => i = g) w w'

/-- Where the reading stands behind k bytes, of value p. -/
def At (l : List UInt8) (k p : Nat) : Prop := p < 128 ^ k ∧ rd 0 l = (rd k (l.drop k)).map fun y => (p + 128 ^ k * y.1, k + y.2)

theorem At.zero (l : List UInt8) : At l 0 0 := ⟨by simp, by simp⟩
theorem At.end_ {l : List UInt8} {k p : Nat} (h : At l k p) (hk : l.length ≤ k) : rd 0 l = none := by
  rw [h.2, List.drop_eq_nil_of_le hk]; rfl
theorem At.here {l : List UInt8} {k p : Nat} (h : At l k p) (hk : k < l.length) : rd 0 l = (rd k (l[k] :: l.drop (k + 1))).map fun y => (p + 128 ^ k * y.1, k + y.2) := by
  rw [h.2, List.drop_eq_getElem_cons hk]
theorem At.big9 {l : List UInt8} {k p : Nat} (h9 : k = 9) (h : At l k p) (hk : k < l.length) (hq : 1 < l[k].toNat) : rd 0 l = none := by
  subst h9
  rw [h.here hk, rd]
  split
  · rw [if_pos (.inr ⟨rfl, hq⟩)]; rfl
  · rfl
theorem At.zero_last {l : List UInt8} {k p : Nat} (h : At l k p) (hk : k < l.length) (h0 : 0 < k) (hq : l[k].toNat = 0) : rd 0 l = none := by
  rw [h.here hk, rd, if_pos (by omega), if_pos (.inl ⟨h0, hq⟩)]; rfl
theorem At.last {l : List UInt8} {k p : Nat} (h : At l k p) (hk : k < l.length) (hq : l[k].toNat < 128) (h0 : ¬ (0 < k ∧ l[k].toNat = 0)) (h9 : ¬ (k = 9 ∧ 1 < l[k].toNat)) : rd 0 l = some (p + 128 ^ k * l[k].toNat, k + 1) := by
  rw [h.here hk, rd, if_pos hq, if_neg (by rintro (h | h); exact h0 h; exact h9 h)]; rfl
theorem At.next {l : List UInt8} {k p : Nat} (h : At l k p) (hk : k < l.length) (hq : 128 ≤ l[k].toNat) (h9 : k ≠ 9) : At l (k + 1) (p + 128 ^ k * (l[k].toNat % 128)) := by
  refine ⟨?_, ?_⟩
  · have h1 := h.1
    have h2 : l[k].toNat % 128 + 1 ≤ 128 := by omega
    have h3 := Nat.mul_le_mul_left (128 ^ k) h2
    rw [Nat.pow_succ]
    rw [Nat.mul_add] at h3
    omega
  · rw [h.here hk, rd, if_neg (by omega), if_neg h9, Option.map_map]
    congr 1
    funext y
    simp only [Function.comp, Nat.pow_succ, Prod.mk.injEq]
    refine ⟨?_, by omega⟩
    rw [Nat.mul_add, Nat.mul_assoc]
    omega

theorem ReadNum.none_ {g b : Nat} {l : List UInt8} {bad : Bool} {most : Nat} {w w' : World} (h : rd 0 l = none) (he : EyeAt w' g b [] true) (hm : Mod (fun i => i = g) w w') : ReadNum g b l bad most w (.returned (.int .u64 0)) w' :=
  ⟨fun v k hv => (by rw [h] at hv; cases hv), fun _ => ⟨rfl, he⟩, hm⟩
theorem ReadNum.much {g b : Nat} {l : List UInt8} {bad : Bool} {most v k : Nat} {w w' : World} (h : rd 0 l = some (v, k)) (hv : most < v) (he : EyeAt w' g b [] true) (hm : Mod (fun i => i = g) w w') : ReadNum g b l bad most w (.returned (.int .u64 0)) w' :=
  ⟨fun v' k' hv' hle => by rw [h] at hv'; injection hv' with hv'; injection hv' with h1 h2; omega, fun _ => ⟨rfl, he⟩, hm⟩
theorem ReadNum.ok {g b : Nat} {l : List UInt8} {bad : Bool} {most v k : Nat} {w w' : World} (h : rd 0 l = some (v, k)) (hv : v ≤ most) (he : EyeAt w' g b (l.drop k) bad) (hm : Mod (fun i => i = g) w w') : ReadNum g b l bad most w (.returned (.int .u64 (v : Nat))) w' := by
  refine ⟨fun v' k' hv' _ => ?_, fun hn => absurd hv (hn v k h), hm⟩
  rw [h] at hv'
  injection hv' with hv'
  injection hv' with h1 h2
  subst h1
  subst h2
  exact ⟨rfl, he⟩
theorem EyeAt.castl {w : World} {g b : Nat} {l l' : List UInt8} {bad : Bool} (h : EyeAt w g b l bad) (e : l = l') : EyeAt w g b l' bad := e ▸ h
theorem Mod.step {g : Nat} {a b c : World} (h : Mod (fun i => i = g) a b) (k : Mod (fun i => i = g) b c) : Mod (fun i => i = g) a c := h.trans k (fun _ _ h => h) (fun _ _ h => h)

set_option maxHeartbeats 1000000 in
set_option maxRecDepth 20000 in
theorem EyeNum_calls (g b : Nat) (l : List UInt8) (bad : Bool) (most : Nat) (w : World) (he : EyeAt w g b l bad) (hm : most ≤ 18446744073709551615) :
    Calls Tryd.prog 86 #[.pointer (some ⟨g, 0, none⟩), .int .u64 most] w (ReadNum g b l bad most w) := by
  have HM := Lib.hid hm
  clear hm
  go_enter Tryd.func86, Tryd.ntmps86
  go_wp2_with fail
  go_loopw [5, 8] (fun x i wr => ∃ k p : Nat, k ≤ 9 ∧ k ≤ l.length ∧ i = .int .i64 k ∧ x = .int .u64 p ∧ Hid (At l k p) ∧ EyeAt wr g b (l.drop k) bad ∧ Mod (fun i => i = g) w wr) (fun _ i _ => 10 - (intOf i).toNat)
  case atStart => exact ⟨0, 0, by omega, by omega, rfl, rfl, Lib.hid (At.zero l), he, Mod.refl _ _⟩
  case round =>
    obtain ⟨k, p, hk, hkl, rfl, rfl, hp, he1, hmod⟩ := hrel
    clear he
    by_cases hlt : k < l.length
    · have hx : valN ((l.drop k).take 1) = l[k].toNat := by
        rw [List.drop_eq_getElem_cons hlt, List.take_succ_cons, List.take_zero, valN_cons]
        simp [valN]
      have HX := Lib.hid hx
      clear hx
      obtain ⟨q, hq⟩ : ∃ q, q = l[k] := ⟨_, rfl⟩
      have HQ := Lib.hid hq
      clear hq
      have hq8 := q.toNat_lt
      have hdr : l.drop (k + 1) = (l.drop k).drop 1 := by simp
      have HD := Lib.hid hdr
      clear hdr
      rcases Nat.lt_or_ge k 9 with h9 | h9
      · have h9' : ((k : Int) == 9) = false := by simp; omega
        have hor := num_or p q.toNat k hq8 hp.out.1 (by have h1 := hp.out.1; have h2 := pow128_le k h9; have h3 : 128 ^ k * (q.toNat % 128) ≤ 128 ^ k * 127 := Nat.mul_le_mul_left _ (by omega); omega)
        obtain ⟨p', hp'⟩ : ∃ p', p' = p + 128 ^ k * (q.toNat % 128) := ⟨_, rfl⟩
        rw [← hp'] at hor
        have HP := Lib.hid hp'
        clear hp'
        by_cases hge : 128 ≤ q.toNat
        · go_wp2_with fail
          refine (EyeByte_calls g b _ bad _ he1).mono ?_
          rintro e w1 ⟨hy, _⟩
          obtain ⟨rfl, he2, hm2⟩ := hy (by simp; omega)
          rw [HX.out, ← HQ.out]
          clear hy he1
          go_wp2_with fail
          go_roundw
          case rel => exact ⟨k + 1, p', by omega, by omega, by go_num, rfl, Lib.hid (by rw [HP.out, HQ.out]; exact hp.out.next hlt (by rw [← HQ.out]; exact hge) (by omega)), he2.castl HD.out.symm, hmod.step hm2⟩
          case measure => simp [intOf]; omega
        · have hq7 : q.toNat < 128 := by omega
          by_cases hz : 0 < k ∧ q.toNat = 0
          · have hr : rd 0 l = none := hp.out.zero_last hlt hz.1 (by rw [← HQ.out]; exact hz.2)
            have HR := Lib.hid hr
            clear hr
            have hk0 : (0 : Int) < (k : Int) := by omega
            have hq0 : ((q.toNat : Int) == 0) = true := by simp [hz.2]
            have hz1 := hz.1
            have hz2 : q.toNat ≤ 0 := by omega
            clear hz
            by_cases hmo : most < p'
            all_goals
              go_wp2_with fail
              refine (EyeByte_calls g b _ bad _ he1).mono ?_
              rintro e w1 ⟨hy, _⟩
              obtain ⟨rfl, he2, hm2⟩ := hy (by simp; omega)
              rw [HX.out, ← HQ.out]
              clear hy he1
              go_wp2_with fail
              refine (fail_calls g b _ _ _ he2).mono ?_
              rintro e w2 ⟨rfl, he3, hm3⟩
              go_wp2_with fail
              go_ret
              exact ReadNum.none_ HR.out he3 ((hmod.step hm2).step hm3)
          · have hr := hp.out.last hlt (by rw [← HQ.out]; exact hq7) (by rw [← HQ.out]; exact hz) (by omega)
            rw [← HQ.out, show 128 ^ k * q.toNat = 128 ^ k * (q.toNat % 128) by rw [Nat.mod_eq_of_lt hq7], ← HP.out] at hr
            have HR := Lib.hid hr
            clear hr
            have hzz : ¬ (0 : Int) < (k : Int) ∨ ((q.toNat : Int) == 0) = false := by
              rcases Nat.eq_zero_or_pos k with h | h
              · exact .inl (by omega)
              · refine .inr ?_
                simp only [beq_eq_false_iff_ne, ne_eq]
                omega
            clear hz
            by_cases hmo : most < p'
            · go_wp2_with fail
              refine (EyeByte_calls g b _ bad _ he1).mono ?_
              rintro e w1 ⟨hy, _⟩
              obtain ⟨rfl, he2, hm2⟩ := hy (by simp; omega)
              rw [HX.out, ← HQ.out]
              clear hy he1 hzz
              go_wp2_with fail
              refine (fail_calls g b _ _ _ he2).mono ?_
              rintro e w2 ⟨rfl, he3, hm3⟩
              go_wp2_with fail
              go_ret
              exact ReadNum.much HR.out hmo he3 ((hmod.step hm2).step hm3)
            · rcases hzz with hzz | hzz
              all_goals
                go_wp2_with fail
                refine (EyeByte_calls g b _ bad _ he1).mono ?_
                rintro e w1 ⟨hy, _⟩
                obtain ⟨rfl, he2, hm2⟩ := hy (by simp; omega)
                rw [HX.out, ← HQ.out]
                clear hy he1
                go_wp2_with fail
                all_goals
                  go_ret
                  exact ReadNum.ok HR.out (by omega) (he2.castl HD.out.symm) (hmod.step hm2)
      · have hk9 : k = 9 := by omega
        have HK := Lib.hid hk9
        clear hk9
        have h9' : ((k : Int) == 9) = true := by simp [HK.out]
        rcases Nat.lt_or_ge 1 q.toNat with hbig | hsm
        · have hr := At.big9 HK.out hp.out hlt (by rw [← HQ.out]; exact hbig)
          have HR := Lib.hid hr
          clear hr
          go_wp2_with fail
          refine (EyeByte_calls g b _ bad _ he1).mono ?_
          rintro e w1 ⟨hy, _⟩
          obtain ⟨rfl, he2, hm2⟩ := hy (by simp; omega)
          rw [HX.out, ← HQ.out]
          clear hy he1
          go_wp2_with fail
          refine (fail_calls g b _ _ _ he2).mono ?_
          rintro e w2 ⟨rfl, he3, hm3⟩
          go_wp2_with fail
          go_ret
          exact ReadNum.none_ HR.out he3 ((hmod.step hm2).step hm3)
        · have hor := num_or p q.toNat k hq8 hp.out.1 (by
            have h1 := hp.out.1
            have h2 : (128 : Nat) ^ 9 = 9223372036854775808 := by decide
            rw [HK.out, h2] at h1
            rw [HK.out, h2]
            omega)
          obtain ⟨p', hp'⟩ : ∃ p', p' = p + 128 ^ k * (q.toNat % 128) := ⟨_, rfl⟩
          rw [← hp'] at hor
          have HP := Lib.hid hp'
          clear hp'
          rcases Nat.eq_zero_or_pos q.toNat with h0 | h0
          · have hr : rd 0 l = none := hp.out.zero_last hlt (by omega) (by rw [← HQ.out]; exact h0)
            have HR := Lib.hid hr
            have hq0 : ((q.toNat : Int) == 0) = true := by simp [h0]
            have h0' : q.toNat ≤ 0 := by omega
            clear hr h0
            by_cases hmo : most < p'
            all_goals
              go_wp2_with fail
              refine (EyeByte_calls g b _ bad _ he1).mono ?_
              rintro e w1 ⟨hy, _⟩
              obtain ⟨rfl, he2, hm2⟩ := hy (by simp; omega)
              rw [HX.out, ← HQ.out]
              clear hy he1
              go_wp2_with fail
              refine (fail_calls g b _ _ _ he2).mono ?_
              rintro e w2 ⟨rfl, he3, hm3⟩
              go_wp2_with fail
              go_ret
              exact ReadNum.none_ HR.out he3 ((hmod.step hm2).step hm3)
          · have hr := hp.out.last hlt (by rw [← HQ.out]; omega) (by rw [← HQ.out]; omega) (by rw [← HQ.out]; omega)
            rw [← HQ.out, show 128 ^ k * q.toNat = 128 ^ k * (q.toNat % 128) by rw [Nat.mod_eq_of_lt (by omega)], ← HP.out] at hr
            have HR := Lib.hid hr
            have hq0 : ((q.toNat : Int) == 0) = false := by simp only [beq_eq_false_iff_ne, ne_eq]; omega
            clear hr
            by_cases hmo : most < p'
            · go_wp2_with fail
              refine (EyeByte_calls g b _ bad _ he1).mono ?_
              rintro e w1 ⟨hy, _⟩
              obtain ⟨rfl, he2, hm2⟩ := hy (by simp; omega)
              rw [HX.out, ← HQ.out]
              clear hy he1
              go_wp2_with fail
              refine (fail_calls g b _ _ _ he2).mono ?_
              rintro e w2 ⟨rfl, he3, hm3⟩
              go_wp2_with fail
              go_ret
              exact ReadNum.much HR.out hmo he3 ((hmod.step hm2).step hm3)
            · go_wp2_with fail
              refine (EyeByte_calls g b _ bad _ he1).mono ?_
              rintro e w1 ⟨hy, _⟩
              obtain ⟨rfl, he2, hm2⟩ := hy (by simp; omega)
              rw [HX.out, ← HQ.out]
              clear hy he1
              go_wp2_with fail
              go_ret
              exact ReadNum.ok HR.out (by omega) (he2.castl HD.out.symm) (hmod.step hm2)
    · have hr := hp.out.end_ (by omega)
      have HR := Lib.hid hr
      clear hr
      have hn0 : (l.drop k).length < 1 := by simp; omega
      have hor := num_or p 0 k (by omega) hp.out.1 (by
        have h1 := hp.out.1
        have h2 : (128 : Nat) ^ k ≤ 128 ^ 9 := Nat.pow_le_pow_right (by omega) hk
        have h3 : (128 : Nat) ^ 9 = 9223372036854775808 := by decide
        omega)
      simp only [Nat.zero_mod, Nat.mul_zero, Nat.add_zero, Int.natCast_zero] at hor
      rcases Nat.eq_zero_or_pos k with hk0 | hk0
      · have hp0 : p = 0 := by have := hp.out.1; rw [hk0] at this; simp at this; exact this
        have HP := Lib.hid hp0
        have hk0' : ¬ (0 : Int) < (k : Int) := by omega
        have h9' : ((k : Int) == 9) = false := by simp; omega
        have hmo : ¬ most < p := by omega
        clear hp0 hk0
        go_wp2_with fail
        refine (EyeByte_calls g b _ bad _ he1).mono ?_
        rintro e w1 ⟨_, hy⟩
        obtain ⟨rfl, he2, hm2⟩ := hy hn0
        clear hy he1
        go_wp2_with fail
        go_ret
        have hz := HP.out
        rw [hz]
        exact ReadNum.none_ HR.out he2 (hmod.step hm2)
      · have hk0' : (0 : Int) < (k : Int) := by omega
        have h9' : ((k : Int) == 9) = false ∨ ((k : Int) == 9) = true := by cases ((k : Int) == 9) <;> simp
        rcases h9' with h9' | h9'
        all_goals
          by_cases hmo : most < p
          all_goals
            go_wp2_with fail
            refine (EyeByte_calls g b _ bad _ he1).mono ?_
            rintro e w1 ⟨_, hy⟩
            obtain ⟨rfl, he2, hm2⟩ := hy hn0
            clear hy he1
            go_wp2_with fail
            refine (fail_calls g b _ _ _ he2).mono ?_
            rintro e w2 ⟨rfl, he3, hm3⟩
            go_wp2_with fail
            go_ret
            exact ReadNum.none_ HR.out he3 ((hmod.step hm2).step hm3)

/-- A blob off the front: itself; none: there is none. -/
def rdBlob (l : List UInt8) (most : Nat) : Option (List UInt8 × List UInt8) :=
  match rd 0 l with
  | some (v, k) => if v ≤ most ∧ v ≤ (l.drop k).length then some ((l.drop k).take v, (l.drop k).drop v) else none
  | none => none

/-- What reading a blob says. -/
def ReadBlob (g b : Nat) (l : List UInt8) (bad : Bool) (most : Nat) (w : World) (e : Ending) (w' : World) : Prop :=
  Mod (fun i => i = g) w w' ∧
  (∀ x r, rdBlob l most = some (x, r) → ∃ A, e = .returned (.slice A x.length x.length) ∧ Bs w' b A x ∧ EyeAt w' g b r bad) ∧
  (rdBlob l most = none → ∃ A, e = .returned (.slice A 0 0) ∧ EyeAt w' g b [] true)

set_option maxHeartbeats 400000 in
theorem EyeBlob_calls (g b : Nat) (l : List UInt8) (bad : Bool) (most : Nat) (w : World) (he : EyeAt w g b l bad) (hm : most ≤ 9223372036854775807) :
    Calls Tryd.prog 63 #[.pointer (some ⟨g, 0, none⟩), .int .i64 most] w (ReadBlob g b l bad most w) := by
  go_enter Tryd.func63, Tryd.ntmps63
  go_wp2_with fail
  refine (EyeNum_calls g b l bad most _ he (by omega)).mono ?_
  rintro e w1 ⟨hy, hn, hm1⟩
  by_cases hr : ∃ v k, rd 0 l = some (v, k) ∧ v ≤ most
  · obtain ⟨v, k, hr, hv⟩ := hr
    obtain ⟨rfl, he1⟩ := hy v k hr hv
    have HR := Lib.hid hr
    clear hr hy hn he
    by_cases hfit : v ≤ (l.drop k).length
    · have HF := Lib.hid hfit
      clear hfit
      go_wp2_with fail
      refine (take_yes g b _ bad v _ he1 HF.out).mono ?_
      rintro e w2 ⟨A', rfl, hs, he2, hm2⟩
      go_wp2_with fail
      go_ret
      have e1 : rdBlob l most = some ((l.drop k).take v, (l.drop k).drop v) := by
        unfold rdBlob
        rw [HR.out]
        simp only
        rw [if_pos ⟨hv, HF.out⟩]
      refine ⟨hm1.step hm2, fun x r hx => ?_, fun hx => by rw [e1] at hx; cases hx⟩
      rw [e1] at hx
      injection hx with hx
      injection hx with h1 h2
      subst h1
      subst h2
      have hl : ((l.drop k).take v).length = v := by rw [List.length_take]; exact Nat.min_eq_left HF.out
      rw [hl]
      exact ⟨A', rfl, hs, he2⟩
    · have HF := Lib.hid hfit
      clear hfit
      go_wp2_with fail
      refine (take_no g b _ bad v _ he1 (by have := HF.out; omega)).mono ?_
      rintro e w2 ⟨rfl, he2, hm2⟩
      go_wp2_with fail
      go_ret
      have e1 : rdBlob l most = none := by
        unfold rdBlob
        rw [HR.out]
        simp only
        rw [if_neg (fun h => HF.out h.2)]
      exact ⟨hm1.step hm2, fun x r hx => (by rw [e1] at hx; cases hx), fun _ => ⟨_, rfl, he2⟩⟩
  · obtain ⟨rfl, he1⟩ := hn (fun v k h hv => hr ⟨v, k, h, hv⟩)
    have HR := Lib.hid hr
    clear hr hy hn he
    go_wp2_with fail
    refine (take_yes g b _ true 0 _ he1 (Nat.le_refl _)).mono ?_
    rintro e w2 ⟨A', rfl, hs, he2, hm2⟩
    go_wp2_with fail
    go_ret
    have e1 : rdBlob l most = none := by
      unfold rdBlob
      split
      · rename_i v k h
        rw [if_neg (fun hh => HR.out ⟨v, k, h, hh.1⟩)]
      · rfl
    exact ⟨hm1.step hm2, fun x r hx => (by rw [e1] at hx; cases hx), fun _ => ⟨_, rfl, he2⟩⟩


def doneErr (l : List UInt8) (bad : Bool) : Int := if bad = true ∨ l ≠ [] then 2 else 0
theorem Done_nil (w : World) : Calls Tryd.prog 64 #[.pointer none] w fun e w' => e = .returned (.int .i64 2) ∧ w = w' := by
  go_enter Tryd.func64, Tryd.ntmps64
  go_wp2
  go_ret
  exact ⟨rfl, rfl⟩
theorem Done_calls (g b : Nat) (l : List UInt8) (bad : Bool) (w : World) (he : EyeAt w g b l bad) :
    Calls Tryd.prog 64 #[.pointer (some ⟨g, 0, none⟩)] w fun e w' => e = .returned (.int .i64 (doneErr l bad)) ∧ w = w' := by
  obtain ⟨hne, A, c, hg, hlc, hcm, hs⟩ := he
  unfold maxLen at hcm
  have hc0 := cell_of_row w g 0 _ _ _ hg
  have hc1 := cell_of_row w g 1 _ _ _ hg
  simp only [List.getElem?_toArray, List.getElem?_cons_zero, List.getElem?_cons_succ] at hc0 hc1
  clear hg
  cases bad
  · rcases Nat.eq_zero_or_pos l.length with h | h
    · have hl : l = [] := List.eq_nil_of_length_eq_zero h
      subst hl
      go_enter Tryd.func64, Tryd.ntmps64
      go_wp2
      go_ret
      exact ⟨by simp [doneErr], rfl⟩
    · have hl : l ≠ [] := by rintro rfl; simp at h
      have HL := Lib.hid hl
      clear hl
      have h' : (0 : Int) < (l.length : Int) := by omega
      go_enter Tryd.func64, Tryd.ntmps64
      go_wp2
      go_ret
      exact ⟨by simp [doneErr, HL.out], rfl⟩
  · go_enter Tryd.func64, Tryd.ntmps64
    go_wp2
    go_ret
    exact ⟨by simp [doneErr], rfl⟩

set_option maxHeartbeats 400000 in
theorem Read_own (A : Option Addr) (l : List UInt8) (n c b : Nat) (w : World) (hs : Bs w b A l) (hn : l.length = n) (hlen : n ≤ 140737488355328) :
    Calls Tryd.prog 59 #[.slice A n c] w fun e w' => ∃ g b', e = .returned (.pointer (some ⟨g, 0, none⟩)) ∧ EyeAt w' g b' l false ∧ w.heap.size ≤ g ∧ w.heap.size ≤ b' ∧ Below w.heap.size w w' ∧ (l ≠ [] → ∃ cur, w'.heap[b']? = some (.cells cur 5 (0, 0))) := by
  go_enter Tryd.func59, Tryd.ntmps59
  go_wp2_with (at_builtin; refine wpList_app w rfl (.const (.slice none 0 0)) (.tmp 3) rfl w.heap.size (.slice none 0 0) [] rfl (Row.nil_ _ _) b A n c l rfl hs hn (by simp; omega) (Nat.le_refl _) ?_; intro v' w1 hrow1 hmod hat; obtain ⟨A', c', b', hv', hlc, hcm, _, hb', hs', _⟩ := hrow1.sl; have hblk := Lib.hid (Row.blk_sl hrow1 hv' hs'); subst hv')
  go_ret
  have hb1 : Below w.heap.size w w1 := hmod.below (Nat.le_refl _) (fun i _ h => by simp [Value.ownBlock] at h)
  have hx : Below w1.heap.size w1 (w1.alloc (.cells #[.slice A' n c', .bool false] 164)) := (Below.refl _ _).alloc (Nat.le_refl _) _
  have hn' : n = l.length := hn.symm
  have hne : b' ≠ w1.heap.size ∨ l = [] := by
    rcases Nat.eq_zero_or_pos l.length with h | h
    · exact .inr (List.eq_nil_of_length_eq_zero h)
    · exact .inl (by have := Sl.lt hs' (by simp only [List.nil_append, ne_eq, bv_nil_iff]; rintro rfl; simp at h); omega)
  simp only [List.nil_append] at hs' hlc
  have hnew : (w1.alloc (.cells #[.slice A' n c', .bool false] 164)).heap[w1.heap.size]? = some (.cells #[.slice A' n c', .bool false] 164 (0, 0)) := heap_alloc_new w1 _
  rw [hn'] at hnew ⊢
  rcases hne with hne | rfl
  · refine ⟨_, b', rfl, ⟨hne, A', c', hnew, hlc, hcm, Sl.alloc hs' _⟩, hb1.size, hb', hb1.alloc hb1.size _, fun hl => ?_⟩
    obtain ⟨cur, hcur⟩ := hblk.out (by simpa using hl)
    exact ⟨cur, (Below.heap_alloc _ _ _ (Array.getElem?_eq_some_iff.1 hcur).1).trans hcur⟩
  · exact ⟨_, w1.heap.size + 1, rfl, ⟨by omega, A', c', hnew, hlc, hcm, Sl.nil_ _ _ _⟩, hb1.size, by have := hb1.size; omega, hb1.alloc hb1.size _, fun hl => absurd rfl hl⟩

theorem Read_calls (A : Option Addr) (l : List UInt8) (n c b : Nat) (w : World) (hs : Bs w b A l) (hn : l.length = n) (hlen : n ≤ 140737488355328) :
    Calls Tryd.prog 59 #[.slice A n c] w fun e w' => ∃ g b', e = .returned (.pointer (some ⟨g, 0, none⟩)) ∧ EyeAt w' g b' l false ∧ w.heap.size ≤ g ∧ w.heap.size ≤ b' ∧ Below w.heap.size w w' :=
  (Read_own A l n c b w hs hn hlen).mono fun _ _ ⟨g, b', h1, h2, h3, h4, h5, _⟩ => ⟨g, b', h1, h2, h3, h4, h5⟩

theorem EyeAt.modne {w w' : World} {g b : Nat} {l : List UInt8} {wr : Bool} (h : EyeAt w g b l wr) {S : Nat → Prop} (hm : Mod S w w') (hg : ¬ S g) (hb : l ≠ [] → ¬ S b) : EyeAt w' g b l wr := by
  obtain ⟨hne, A, c, h1, h2, h3, h4⟩ := h
  exact ⟨hne, A, c, by rw [hm.block g (Array.getElem?_eq_some_iff.1 h1).1 hg]; exact h1, h2, h3, Bs.modne h4 hm hb⟩
end Go.Proofs.YtgpedkdebifooaaDoor
