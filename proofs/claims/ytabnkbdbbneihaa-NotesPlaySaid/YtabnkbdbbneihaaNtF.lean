/-
  WHAT IS GONE THROUGH: the law's Light, walked.
-/
import Derived.Test.YtabnkbdbbneihaaNtE
namespace Go.Proofs.Ytabnkbdbbneihaa
open Go.ChangeShapes Go.WideShapes Go.ChangeAt Go.RowKit

def NtFew (l : List Nt) : Prop := l.length ≤ 80 ∧ ∀ i, i < l.length → (l.getD i Nt.zero).b.length ≤ 80
def Li19St (w : World) (l : List Nt) (g : Nat) (i : Value) (wr : World) : Prop :=
  ∃ k : Nat, k + g = l.length ∧ i = .int .i64 (k : Int) ∧ (∀ j, j < k → (l.getD j Nt.zero).b.length ≤ 80) ∧ Below w.heap.size w wr
def Li19Post (l : List Nt) (w : World) (e : Ending) (w' : World) : Prop := (e = .returned (.bool true) ∧ NtFew l ∨ e = .returned (.bool false)) ∧ Below w.heap.size w w'
set_option maxHeartbeats 2000000 in
theorem light19_any (A : Option Addr) (ca : Nat) (l : List Nt) (w : World) (hl : l.length ≤ 9223372036854775807) (hf : ∀ x ∈ l, x.Fits) (hA : Nts w A l) :
    Calls Try.prog 8 #[.slice A l.length ca] w (Li19Post l w) := by
  have HA := Lib.hid hA
  have HFI := Lib.hid hf
  clear hA hf
  go_enter Try.func8, Try.ntmps8
  go_wp2_with fail
  go_loopg [7] l.length (fun g i wr => Li19St w l g i wr)
  case atStart => exact ⟨0, by omega, rfl, fun j hj => absurd hj (by omega), Below.refl _ _⟩
  case round =>
    obtain ⟨k, hk, rfl, hall, hB⟩ := hrel
    have HK := Lib.hid hk
    have HALL := Lib.hid hall
    have HB := Lib.hid hB
    clear hk hall hB
    by_cases hlt : k < l.length
    · obtain ⟨b, off, rfl, hb, e0, e1, e2⟩ := (HA.out.on HB.out).get hlt
      have hz : (ofL (l.getD k Nt.zero).b).size = (l.getD k Nt.zero).b.length := ofL_size _
      have hx63 : (l.getD k Nt.zero).b.length ≤ 9223372036854775807 := by
        have hm : l.getD k Nt.zero ∈ l := by rw [List.getD_eq_getElem?_getD, List.getElem?_eq_getElem hlt]; exact List.getElem_mem hlt
        exact (HFI.out _ hm).2.2
      by_cases h5 : 80 < (l.getD k Nt.zero).b.length
      · generalize l.getD k Nt.zero = x at *
        have HB2 := Lib.hid (HB.out.alloc HB.out.size (.cells #[.int .u64 (x.t : Int), .int .u8 (x.k : Int), .string (ofL x.b)] 32))
        go_wp2_with fail
        go_ret
        exact ⟨Or.inr rfl, HB2.out⟩
      · have HN := Lib.hid (show ∀ j, j < k + 1 → (l.getD j Nt.zero).b.length ≤ 80 from fun j hj => by
          by_cases e : j = k
          · rw [e]; omega
          · exact HALL.out j (by omega))
        generalize l.getD k Nt.zero = x at *
        have HB2 := Lib.hid (HB.out.alloc HB.out.size (.cells #[.int .u64 (x.t : Int), .int .u8 (x.k : Int), .string (ofL x.b)] 32))
        go_wp2_with fail
        go_roundg (gk - 1)
        case rel => exact ⟨k + 1, by have := HK.out; omega, by go_num, HN.out, HB2.out⟩
        case measure => have := HK.out; omega
    · by_cases h80 : l.length ≤ 80
      · have HF := Lib.hid (show NtFew l from ⟨h80, fun i hi => HALL.out i (by have := HK.out; omega)⟩)
        have hd : decide ((l.length : Int) ≤ 80) = true := decide_eq_true (by omega)
        go_wp2_with fail
        go_ret
        exact ⟨Or.inl ⟨rfl, HF.out⟩, HB.out⟩
      · have hd : decide ((l.length : Int) ≤ 80) = false := decide_eq_false (by omega)
        go_wp2_with fail
        go_ret
        exact ⟨Or.inr rfl, HB.out⟩
end Go.Proofs.Ytabnkbdbbneihaa
