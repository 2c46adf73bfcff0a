/- Pens that lie apart; the fields that few hands back; how long what is laid is. No condition: plain lemmas. -/
import Derived.Test.YtokjkbbijfiloaaLay
namespace Go.Proofs.Ytokjkbbijfiloaa
open Go.RowKit

/-- Two pens share no memory. -/
def Ap (g : Nat) (r : Option Nat) (g' : Nat) (r' : Option Nat) : Prop := g ≠ g' ∧ r ≠ some g' ∧ r' ≠ some g ∧ ∀ q, r = some q → r' ≠ some q
theorem Ap.symm {g g' : Nat} {r r' : Option Nat} (h : Ap g r g' r') : Ap g' r' g r := ⟨h.1.symm, h.2.2.1, h.2.1, fun q hq hr => h.2.2.2 q hr hq⟩
theorem Ap.step {g g' : Nat} {r r' r1 : Option Nat} {w w1 : World} (h : Ap g r g' r') (hs : PenStep g r r1 w w1) (hg : g' < w.heap.size) (hr : ∀ q, r' = some q → q < w.heap.size) : Ap g r1 g' r' := by
  obtain ⟨h1, h2, h3, h4⟩ := h
  rcases hs.1 with rfl | ⟨k, rfl, hk⟩
  · exact ⟨h1, h2, h3, h4⟩
  · exact ⟨h1, fun e => by injection e with e; omega, h3, fun q hq hr' => by injection hq with hq; have := hr q hr'; omega⟩
theorem PenAt.far {g g' : Nat} {r r' r1 : Option Nat} {l : List UInt8} {w w1 : World} (h : PenAt w g' r' l) (hs : PenStep g r r1 w w1) (ha : Ap g r g' r') : PenAt w1 g' r' l :=
  h.mod hs.2 (fun e => e.elim (fun e => ha.1 e.symm) ha.2.1) (fun k hk e => e.elim (fun e => ha.2.2.1 (by rw [hk, e])) (fun e => ha.2.2.2 k e hk))
/-- A row not below B. -/
def Ge (B : Nat) (r : Option Nat) : Prop := ∀ q, r = some q → B ≤ q
theorem Ge.none_ (B : Nat) : Ge B none := fun _ h => by cases h
theorem Ge.step {B g : Nat} {r r1 : Option Nat} {w w1 : World} (h : Ge B r) (hs : PenStep g r r1 w w1) (hB : B ≤ w.heap.size) : Ge B r1 := by
  rcases hs.1 with rfl | ⟨k, rfl, hk⟩
  · exact h
  · intro q hq; injection hq with hq; omega
theorem PenStep.frame {B g : Nat} {r r1 : Option Nat} {w w1 : World} (hs : PenStep g r r1 w w1) (hg : B ≤ g) (hr : Ge B r) (hB : B ≤ w.heap.size) : Below B w w1 :=
  hs.2.below hB (fun i hi h => by rcases h with h | h; omega; have := hr i h; omega)

/-- The fields that few hands back, in a world: short ones, at most twelve. -/
def Short (w : World) (b : Nat) (A : Option Addr) (ys : List FV) : Prop := FldsIn w b A ys ∧ ys.length ≤ 12 ∧ ∀ y ∈ ys, y.f.b.length ≤ 40
theorem Short.ext {w w' : World} {b : Nat} {A : Option Addr} {ys : List FV} (h : Short w b A ys) (hm : Below w.heap.size w w') : Short w' b A ys := ⟨h.1.ext hm, h.2⟩
theorem Short.of_few {w' : World} {B : Nat} {v : Value} {ys : List FV} {fs : List Fld} (hm : ys.map FV.f = fewF fs) (hr : Rows w' B v ys) (hin : ∀ y ∈ ys, FV.In w' y ∧ B ≤ y.b) :
    ∃ A c b, v = .slice A ys.length c ∧ Short w' b A ys := by
  have hlen : ys.length ≤ 12 := by
    have h1 := congrArg List.length hm
    have h2 := few_len fs
    simp only [List.length_map] at h1
    omega
  have hb : ∀ y ∈ ys, y.f.b.length ≤ 40 := by
    intro y hy
    have h1 : y.f ∈ ys.map FV.f := List.mem_map_of_mem hy
    rw [hm] at h1
    unfold fewF at h1
    obtain ⟨f, _, hf⟩ := List.mem_map.1 h1
    rw [← hf]
    show (f.b.take 40).length ≤ 40
    rw [List.length_take]
    omega
  rcases hr.2 with ⟨rfl, hn⟩ | ⟨g, cap, cur, rfl, hbg, hh, hnc, hcm, hsz, htk⟩
  · have hy0 : ys = [] := List.eq_nil_of_length_eq_zero hn
    subst hy0
    exact ⟨none, 0, 0, rfl, ⟨Sl.nil_ _ _ _, by simp⟩, hlen, hb⟩
  · refine ⟨_, cap, g, rfl, ⟨fun _ => ⟨0, rfl, fun j u hu => ?_⟩, fun y hy => (hin y hy).1⟩, hlen, hb⟩
    have := World.ownsRow.cells hr (g := g) rfl j u hu
    simpa [Addr.add_lit] using this

/-- What a list of fields is laid as. -/
def lays (ys : List FV) : List UInt8 := (ys.map fun y => layF y.f).flatten
theorem lays_append (a b : List FV) : lays (a ++ b) = lays a ++ lays b := by simp [lays]
theorem lays_one (y : FV) : lays [y] = layF y.f := by simp [lays]
theorem lays_take (ys : List FV) (k : Nat) (h : k < ys.length) : lays (ys.take (k + 1)) = lays (ys.take k) ++ layF ys[k].f := by
  rw [List.take_succ_eq_append_getElem h, lays_append, lays_one]
theorem layF_len (f : Fld) (h : f.b.length ≤ 40) : (layF f).length ≤ 50 := by
  have h1 := numF_length 10 f.n
  have h2 := numF_length 10 f.b.length
  unfold layF num
  split
  · simp
  · split
    · simp
    · split
      · simp
      · split
        · omega
        · simp only [List.length_append]; omega
theorem lays_len (ys : List FV) (h : ∀ y ∈ ys, y.f.b.length ≤ 40) : (lays ys).length ≤ 50 * ys.length := by
  induction ys with
  | nil => simp [lays]
  | cons y l ih =>
    have e : lays (y :: l) = layF y.f ++ lays l := by simp [lays]
    have h1 := layF_len y.f (h y (by simp))
    have h2 := ih (fun z hz => h z (by simp [hz]))
    rw [e, List.length_append, List.length_cons]
    omega
theorem lays_take_len {w : World} {b : Nat} {A : Option Addr} {ys : List FV} (h : Short w b A ys) (k : Nat) : (lays (ys.take k)).length ≤ 600 := by
  have h1 := lays_len (ys.take k) (fun y hy => h.2.2 y (List.mem_of_mem_take hy))
  have h2 : (ys.take k).length ≤ 12 := by rw [List.length_take]; have := h.2.1; omega
  omega
/-- A field, loaded into a box of its own. -/
theorem box_cells {w' : World} {g : Nat} {a b c d : Value} {t : TypeId} (h : w'.heap[g]? = some (.cells #[a, b, c, d] t (0, 0))) :
    w'.cell? ⟨g, 0, none⟩ = some a ∧ w'.cell? ⟨g, 1, none⟩ = some b ∧ w'.cell? ⟨g, 2, none⟩ = some c ∧ w'.cell? ⟨g, 3, none⟩ = some d := by
  refine ⟨?_, ?_, ?_, ?_⟩ <;> (rw [cell_of_row _ _ _ _ _ _ h]; rfl)
end Go.Proofs.Ytokjkbbijfiloaa
