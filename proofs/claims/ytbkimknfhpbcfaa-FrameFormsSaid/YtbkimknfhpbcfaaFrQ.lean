/- bytes.Equal; Same of two frames. Conditions: the lengths fit. -/
import Derived.Test.YtbkimknfhpbcfaaFrW
import Derived.Laws.BytesArg
import Derived.Deep.RegionHeld3
namespace Go.Proofs.Ytbkimknfhpbcfaa
open Go.RowKit

theorem run_conv_bytes (w : World) (A : Option Addr) (l : List UInt8) (n c b : Nat) (hs : Bs w b A l) (hn : l.length = n) :
    (convert 27 9 (.slice A n c)).run Try.prog w = .ok (.string ⟨l.toArray⟩) w := by
  rw [run_convert_bytes_string w _ _ 5 _ _ _ Try.underlying27 Try.underlying5 Try.underlying9]
  rcases A with _ | a
  · have h0 : n = 0 := Sl.none_len hs (by simpa using hn) rfl
    subst h0
    have hl : l = [] := List.eq_nil_of_length_eq_zero hn
    subst hl
    simp [Conv.bytesToString]
    rfl
  · have hl : (loadCells a n).run Try.prog w = .ok ((l.map fun x => (x.toNat : Int)).map (Value.int .u8)).toArray w := by
      have h1 := run_loadCells_list (P := Try.prog) w a ((l.map fun x => (x.toNat : Int)).map (Value.int .u8)) (fun j v hj => by
        have hjl : j < l.length := by
          have := (List.getElem?_eq_some_iff.1 hj).1
          simpa using this
        obtain ⟨off, hA, hc⟩ := Bs.at_ hs hjl
        injection hA with hA
        subst hA
        rw [Addr.add_lit, hc j hjl]
        simpa [hjl] using hj)
      simpa [hn] using h1
    rw [run_bytesToString w a n c _ hl, foldl_push_bytes]
    congr 2
    have e : ∀ (l : List UInt8), List.map ((fun n : Int => UInt8.ofNat n.toNat) ∘ fun x : UInt8 => (x.toNat : Int)) l = l := fun l => by
      induction l with
      | nil => rfl
      | cons x l ih => rw [List.map_cons, ih]; simp
    simp [ByteArray.empty, ByteArray.emptyWithCapacity]
    rw [e]
    rfl
theorem bstr_eq (a b : List UInt8) : ((⟨a.toArray⟩ : ByteArray).toList == (⟨b.toArray⟩ : ByteArray).toList) = decide (a = b) := by
  rw [ByteArray.toList_eq, ByteArray.toList_eq, Bool.eq_iff_iff]
  simp

set_option maxHeartbeats 1000000 in
theorem BEqual_calls (A B : Option Addr) (a b : List UInt8) (n m ca cb ba bb : Nat) (w : World) (ha : Bs w ba A a) (hb : Bs w bb B b) (hn : a.length = n) (hm : b.length = m) :
    Calls Try.prog 55 #[.slice A n ca, .slice B m cb] w fun e w' => e = .returned (.bool (decide (a = b))) ∧ w' = w := by
  have h1 := run_conv_bytes w A a n ca ba ha hn
  have h2 := run_conv_bytes w B b m cb bb hb hm
  have h3 := bstr_eq a b
  obtain ⟨z, hz⟩ : ∃ z, z = decide (a = b) := ⟨_, rfl⟩
  rw [← hz]
  rw [← hz] at h3
  clear hz
  obtain ⟨s1, hs1⟩ : ∃ s : ByteArray, s = ⟨a.toArray⟩ := ⟨_, rfl⟩
  obtain ⟨s2, hs2⟩ : ∃ s : ByteArray, s = ⟨b.toArray⟩ := ⟨_, rfl⟩
  rw [← hs1] at h1 h3
  rw [← hs2] at h2 h3
  clear hs1 hs2 ha hb hn hm
  go_enter Try.func55, Try.ntmps55
  go_wp2_with fail
  go_ret
  exact ⟨rfl, rfl⟩
end Go.Proofs.Ytbkimknfhpbcfaa
