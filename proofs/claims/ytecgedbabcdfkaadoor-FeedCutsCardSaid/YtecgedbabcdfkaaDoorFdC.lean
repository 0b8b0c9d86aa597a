/-
  FEEDS' SMALL CALLS; frames held against frames: walked.
-/
import Derived.Test.YtecgedbabcdfkaaDoorFdB
namespace Go.Proofs.YtecgedbabcdfkaaDoor
open Go.ChangeShapes Go.WideShapes Go.ChangeAt Go.RowKit

theorem frest_any (r : ByteArray) (e : Int) (w : World) : Calls Tryd.prog 22 #[.agg #[.string r, .int .i64 e]] w fun x w' => x = .returned (.string r) ∧ Below w.heap.size w w' := by
  go_enter Tryd.func22, Tryd.ntmps22
  go_wp2_with fail
  go_ret
  exact ⟨rfl, (Below.refl _ _).alloc (Nat.le_refl _) _⟩
theorem ferr_any (r : ByteArray) (e : Int) (w : World) : Calls Tryd.prog 23 #[.agg #[.string r, .int .i64 e]] w fun x w' => x = .returned (.int .i64 e) ∧ Below w.heap.size w w' := by
  go_enter Tryd.func23, Tryd.ntmps23
  go_wp2_with fail
  go_ret
  exact ⟨rfl, (Below.refl _ _).alloc (Nat.le_refl _) _⟩
attribute [local go_sem ↓] frm_eql rfrm_eql
attribute [local go_sem] guardF guardRF
theorem same1_any (a b : Int) (x : ByteArray) (w : World) :
    Calls Tryd.prog 48 #[.agg #[.int .u8 a, .int .u8 b, .string x], .agg #[.int .u8 a, .int .u8 b, .string x]] w fun e w' => e = .returned (.bool true) ∧ Below w.heap.size w w' := by
  have hs := frmEq_self a b x
  go_enter Tryd.func48, Tryd.ntmps48
  go_wp2_with fail
  go_ret
  exact ⟨rfl, ((Below.refl _ _).alloc (Nat.le_refl _) _).alloc (by simp) _⟩
theorem fsame_self (a b : Int) (x : ByteArray) (w : World) :
    Calls Tryd.prog 15 #[.agg #[.int .u8 a, .int .u8 b, .string x], .agg #[.int .u8 a, .int .u8 b, .string x]] w fun e w' => e = .returned (.bool true) ∧ Below w.heap.size w w' := by
  have := fsame_any a b x a b x w
  rw [frmEq_self] at this
  exact this
def EqSt (w : World) (n : Nat) (g : Nat) (i : Value) (wr : World) : Prop := ∃ k : Nat, k + g = n ∧ i = .int .i64 (k : Int) ∧ Below w.heap.size w wr
set_option maxHeartbeats 4000000 in
theorem eqSelf_any (A B : Option Addr) (ca cb : Nat) (l : List Fr.Frame) (w : World) (hl : l.length ≤ 100000) (hA : Frms w A l) (hB : Frms w B l) :
    Calls Tryd.prog 24 #[.slice A l.length ca, .slice B l.length cb, .func (.func 15) #[] #[]] w fun e w' => e = .returned (.bool true) ∧ Below w.heap.size w w' := by
  have HA := Lib.hid hA
  have HB := Lib.hid hB
  have HSm := Lib.hid (fun a b x W => fsame_self a b x W)
  clear hA hB
  go_enter Tryd.func24, Tryd.ntmps24
  go_wp2_with fail
  go_loopg [17] l.length (fun g i wr => EqSt w l.length g i wr)
  case atStart => exact ⟨0, by omega, rfl, Below.refl _ _⟩
  case round =>
    obtain ⟨k, hk, rfl, hb⟩ := hrel
    have HK := Lib.hid hk
    have HBe := Lib.hid hb
    clear hk hb
    by_cases hlt : k < l.length
    · obtain ⟨b1, o1, rfl, hb1, hat1⟩ := HA.out.at_ k hlt
      obtain ⟨b2, o2, rfl, hb2, hat2⟩ := HB.out.at_ k hlt
      have f1 := hat1.below HBe.out hb1
      have f2 := hat2.below HBe.out hb2
      clear hat1 hat2
      obtain ⟨c0, c1, c2⟩ := f1
      obtain ⟨d0, d1, d2⟩ := f2
      have l1 : b1 < wr.heap.size := Nat.lt_of_lt_of_le hb1 HBe.out.size
      have l2 : b2 < wr.heap.size := Nat.lt_of_lt_of_le hb2 HBe.out.size
      generalize frm l k = f at *
      generalize f.c.toNat = fc at *
      generalize f.k.toNat = fk at *
      generalize ofL f.b = fb at *
      go_wp2_with fail
      refine (HSm.out _ _ _ _).mono ?_
      rintro e w2 ⟨rfl, b2⟩
      have HB2 := Lib.hid (((HBe.out.alloc HBe.out.size (.cells #[.int .u8 (fc : Int), .int .u8 (fk : Int), .string fb] 23)).alloc (by simp; have := HBe.out.size; omega) (.cells #[.int .u8 (fc : Int), .int .u8 (fk : Int), .string fb] 23)).trans (b2.mono (by simp; have := HBe.out.size; omega)))
      clear b2
      go_wp2_with fail
      go_roundg (gk - 1)
      case rel => exact ⟨k + 1, by have := HK.out; omega, by go_num, HB2.out⟩
      case measure => have := HK.out; omega
    · go_wp2_with fail
      go_ret
      exact ⟨rfl, HBe.out⟩
set_option maxHeartbeats 4000000 in
theorem eqRef_any (A B : Option Addr) (ca cb : Nat) (l : List Fr.Frame) (w : World) (hl : l.length ≤ 100000) (hA : Frms w A l) (hB : Frms w B l) :
    Calls Tryd.prog 47 #[.slice A l.length ca, .slice B l.length cb, .func (.func 48) #[] #[]] w fun e w' => e = .returned (.bool true) ∧ Below w.heap.size w w' := by
  have HA := Lib.hid hA
  have HB := Lib.hid hB
  have HSm := Lib.hid (fun a b x W => same1_any a b x W)
  clear hA hB
  go_enter Tryd.func47, Tryd.ntmps47
  go_wp2_with fail
  go_loopg [17] l.length (fun g i wr => EqSt w l.length g i wr)
  case atStart => exact ⟨0, by omega, rfl, Below.refl _ _⟩
  case round =>
    obtain ⟨k, hk, rfl, hb⟩ := hrel
    have HK := Lib.hid hk
    have HBe := Lib.hid hb
    clear hk hb
    by_cases hlt : k < l.length
    · obtain ⟨b1, o1, rfl, hb1, hat1⟩ := HA.out.at_ k hlt
      obtain ⟨b2, o2, rfl, hb2, hat2⟩ := HB.out.at_ k hlt
      have f1 := hat1.below HBe.out hb1
      have f2 := hat2.below HBe.out hb2
      clear hat1 hat2
      obtain ⟨c0, c1, c2⟩ := f1
      obtain ⟨d0, d1, d2⟩ := f2
      have l1 : b1 < wr.heap.size := Nat.lt_of_lt_of_le hb1 HBe.out.size
      have l2 : b2 < wr.heap.size := Nat.lt_of_lt_of_le hb2 HBe.out.size
      generalize frm l k = f at *
      generalize f.c.toNat = fc at *
      generalize f.k.toNat = fk at *
      generalize ofL f.b = fb at *
      go_wp2_with fail
      refine (HSm.out _ _ _ _).mono ?_
      rintro e w2 ⟨rfl, b2⟩
      have HB2 := Lib.hid (((HBe.out.alloc HBe.out.size (.cells #[.int .u8 (fc : Int), .int .u8 (fk : Int), .string fb] 23)).alloc (by simp; have := HBe.out.size; omega) (.cells #[.int .u8 (fc : Int), .int .u8 (fk : Int), .string fb] 33)).trans (b2.mono (by simp; have := HBe.out.size; omega)))
      clear b2
      go_wp2_with fail
      go_roundg (gk - 1)
      case rel => exact ⟨k + 1, by have := HK.out; omega, by go_num, HB2.out⟩
      case measure => have := HK.out; omega
    · go_wp2_with fail
      go_ret
      exact ⟨rfl, HBe.out⟩
theorem same8_any (A B : Option Addr) (ca cb : Nat) (l : List Fr.Frame) (w : World) (hl : l.length ≤ 100000) (hA : Frms w A l) (hB : Frms w B l) :
    Calls Tryd.prog 21 #[.slice A l.length ca, .slice B l.length cb] w fun e w' => e = .returned (.bool true) ∧ Below w.heap.size w w' := by
  have H := Lib.hid (eqRef_any A B ca cb l w hl hA hB)
  clear hA hB
  go_enter Tryd.func21, Tryd.ntmps21
  go_wp2_with fail
  refine H.out.mono ?_
  rintro e w1 ⟨rfl, hb⟩
  go_wp2_with fail
  go_ret
  exact ⟨rfl, hb⟩
theorem law7Awake_any (w : World) (hT : Tab w) : Calls Tryd.prog 46 #[] w fun e w' => e = .returned (.bool true) ∧ Below w.heap.size w w' := by
  have H := Lib.hid (frmAwake_any w hT)
  clear hT
  go_enter Tryd.func46, Tryd.ntmps46
  go_wp2_with fail
  refine H.out.mono ?_
  rintro e w1 ⟨rfl, hb⟩
  go_wp2_with fail
  go_ret
  exact ⟨rfl, hb⟩
end Go.Proofs.YtecgedbabcdfkaaDoor
