/-
  NOTES HELD AGAINST EACH OTHER: the program's, walked.
-/
import Derived.Test.YtabnkbdbbneihaaNtK
namespace Go.Proofs.Ytabnkbdbbneihaa
open Go.ChangeShapes Go.WideShapes Go.ChangeAt Go.RowKit

attribute [local go_sem ↓] nt_eql
attribute [local go_sem] guardNt
set_option maxRecDepth 100000 in
set_option maxHeartbeats 4000000 in
theorem eqNt_self (c d : Nat) (A B : Option Addr) (l : List Nt) (w : World) (hl : l.length ≤ 100000) (hA : Nts w A l) (hB : Nts w B l) :
    Calls Try.prog 29 #[.slice A l.length c, .slice B l.length d] w fun e w' => e = .returned (.bool true) ∧ Below w.heap.size w w' := by
  have HA := Lib.hid hA
  have HB := Lib.hid hB
  clear hA hB
  go_enter Try.func29, Try.ntmps29
  go_wp2_with fail
  go_loopg [13] l.length (fun g i wr => JSt w l.length g i wr)
  case atStart => exact ⟨0, by omega, rfl, Below.refl _ _⟩
  case round =>
    obtain ⟨k, hk, rfl, hb⟩ := hrel
    have HK := Lib.hid hk
    have HBE := Lib.hid hb
    clear hk hb
    by_cases hlt : k < l.length
    · obtain ⟨b1, o1, rfl, hb1, x0, x1, x2⟩ := (HA.out.on HBE.out).get hlt
      obtain ⟨b2, o2, rfl, hb2, y0, y1, y2⟩ := (HB.out.on HBE.out).get hlt
      generalize l.getD k Nt.zero = x at *
      go_wp2_with fail
      go_quiet (fail)
      go_wp2_with fail
      go_roundg (gk - 1)
      case rel => exact ⟨k + 1, by have := HK.out; omega, by go_num, HBE.out.trans ⟨rfl, rfl, rfl, Nat.le_refl _, fun _ _ => rfl⟩⟩
      case measure => have := HK.out; omega
    · go_wp2_with fail
      go_ret
      exact ⟨rfl, HBE.out⟩
set_option maxHeartbeats 2000000 in
theorem ntSame_self (T c d : Nat) (A B : Option Addr) (l : List Nt) (w : World) (hl : l.length ≤ 100000) (hA : Nts w A l) (hB : Nts w B l) :
    Calls Try.prog 13 #[.agg #[.int .u64 (T : Int), .slice A l.length c], .agg #[.int .u64 (T : Int), .slice B l.length d]] w fun e w' => e = .returned (.bool true) ∧ Below w.heap.size w w' := by
  have HB0 := Lib.hid ((alloc1B w (.cells #[.int .u64 (T : Int), .slice A l.length c] 27)).trans ((alloc1B (w.alloc (.cells #[.int .u64 (T : Int), .slice A l.length c] 27)) (.cells #[.int .u64 (T : Int), .slice B l.length d] 27)).mono (by simp)))
  have HE := Lib.hid (eqNt_self c d A B l _ hl (hA.on HB0.out) (hB.on HB0.out))
  clear hA hB
  go_enter Try.func13, Try.ntmps13
  go_wp2_with fail
  refine HE.out.mono ?_
  rintro e w1 ⟨rfl, b1⟩
  have HB1 := Lib.hid (bthen HB0.out b1 (Nat.le_refl _))
  clear b1
  go_wp2_with fail
  go_ret
  exact ⟨rfl, HB1.out⟩
set_option maxHeartbeats 2000000 in
theorem ntSame_no (T T' n c m d : Nat) (A B : Option Addr) (w : World) (h : T ≠ T') :
    Calls Try.prog 13 #[.agg #[.int .u64 (T : Int), .slice A n c], .agg #[.int .u64 (T' : Int), .slice B m d]] w fun e w' => e = .returned (.bool false) ∧ Below w.heap.size w w' := by
  have d0 : ((T : Int) == (T' : Int)) = false := by rw [beq_eq_false_iff_ne]; omega
  go_enter Try.func13, Try.ntmps13
  go_wp2_with fail
  go_ret
  exact ⟨rfl, (alloc1B w _).trans ((alloc1B _ _).mono (by simp))⟩
end Go.Proofs.Ytabnkbdbbneihaa
