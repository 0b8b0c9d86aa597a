/-
  THE DOCUMENT's NOTES: one more; two held against each other; one of a number: walked.
-/
import Derived.Test.YtabnkbdbbneihaaNtI
namespace Go.Proofs.Ytabnkbdbbneihaa
open Go.ChangeShapes Go.WideShapes Go.ChangeAt Go.RowKit

/-! ### two of them -/
theorem guardRNt : Try.prog.eqGuardType Try.prog.depth 38 = false := by kernel_rfl
theorem stoodRNt : Try.prog.stoodInHeld 38 = false := by kernel_rfl
theorem fieldsRNt : Try.prog.fieldsOf 38 = #[⟨"Tick", 23, 0, false, "", "", 0⟩, ⟨"Kind", 5, 1, false, "", "", 8⟩, ⟨"Text", 9, 2, false, "", "", 16⟩] := by kernel_rfl
theorem rnt_eql (a b : Int) (s : ByteArray) (c d : Int) (t : ByteArray) (W : World) : (Op.equalIn 10000 38 (.agg #[.int .u64 a, .int .u8 b, .string s]) (.agg #[.int .u64 c, .int .u8 d, .string t])).run Try.prog W = .ok ((a == c) && (b == d) && (s.toList == t.toList)) W := by
  rw [run_equalIn_agg (ht := by kernel_rfl) (hp := stoodRNt), fieldsRNt]
  simp [Op.eqFields, go_sem, Try.underlying23, Try.underlying5, Try.underlying9]
  by_cases h1 : a = c <;> by_cases h2 : b = d <;> by_cases h3 : s.toList = t.toList <;> simp [h1, h2, h3]
attribute [local go_sem ↓] rnt_eql nt_eql
attribute [local go_sem] guardRNt guardNt
def JSt (w : World) (n g : Nat) (i : Value) (wr : World) : Prop := ∃ k : Nat, k + g = n ∧ i = .int .i64 (k : Int) ∧ Below w.heap.size w wr
set_option maxRecDepth 100000 in
set_option maxHeartbeats 4000000 in
theorem r19Same_self (T c d : Nat) (A B : Option Addr) (l : List Nt) (w : World) (hl : l.length ≤ 100000) (hA : Nts w A l) (hB : Nts w B l) :
    Calls Try.prog 11 #[.agg #[.int .u64 (T : Int), .slice A l.length c], .agg #[.int .u64 (T : Int), .slice B l.length d]] w fun e w' => e = .returned (.bool true) ∧ Below w.heap.size w w' := by
  have HA := Lib.hid hA
  have HB := Lib.hid hB
  have HA0 := Lib.hid (alloc1B w (.cells #[.int .u64 (T : Int), .slice A l.length c] 30))
  have HD0 := Lib.hid (Du2.new w (.int .u64 (T : Int)) (.slice A l.length c) 30)
  clear hA hB
  go_enter Try.func11, Try.ntmps11
  go_wp2_with fail
  have HB0 := Lib.hid (HA0.out.trans ((alloc1B (w.alloc (.cells #[.int .u64 (T : Int), .slice A l.length c] 30)) (.cells #[.int .u64 (T : Int), .slice B l.length d] 30)).mono (by simp)))
  have HD1 := Lib.hid (HD0.out.on (alloc1B (w.alloc (.cells #[.int .u64 (T : Int), .slice A l.length c] 30)) (.cells #[.int .u64 (T : Int), .slice B l.length d] 30)))
  have HE1 := Lib.hid (show Du2 (w.heap.size + 1) (.int .u64 (T : Int)) (.slice B l.length d) ((w.alloc (.cells #[.int .u64 (T : Int), .slice A l.length c] 30)).alloc (.cells #[.int .u64 (T : Int), .slice B l.length d] 30)) from by
    have h := Du2.new (w.alloc (.cells #[.int .u64 (T : Int), .slice A l.length c] 30)) (.int .u64 (T : Int)) (.slice B l.length d) 30
    rwa [show (w.alloc (.cells #[.int .u64 (T : Int), .slice A l.length c] 30)).heap.size = w.heap.size + 1 by simp] at h)
  generalize (w.alloc (.cells #[.int .u64 (T : Int), .slice A l.length c] 30)).alloc (.cells #[.int .u64 (T : Int), .slice B l.length d] 30) = w1 at *
  go_loopg [23] l.length (fun g i wr => JSt w1 l.length g i wr)
  case atStart => exact ⟨0, by omega, rfl, Below.refl _ _⟩
  case round =>
    obtain ⟨k, hk, rfl, hb⟩ := hrel
    have HK := Lib.hid hk
    have HBE := Lib.hid hb
    clear hk hb
    by_cases hlt : k < l.length
    · obtain ⟨b1, o1, rfl, hb1, x0, x1, x2⟩ := ((HA.out.on HB0.out).on HBE.out).get hlt
      obtain ⟨b2, o2, rfl, hb2, y0, y1, y2⟩ := ((HB.out.on HB0.out).on HBE.out).get hlt
      have hd := HD1.out.on HBE.out
      have he := HE1.out.on HBE.out
      have e0 := hd.c0
      have e1 := hd.c1
      have f0 := he.c0
      have f1 := he.c1
      clear hd he
      generalize l.getD k Nt.zero = x at *
      go_wp2_with fail
      go_quiet (fail)
      go_wp2_with fail
      go_roundg (gk - 1)
      case rel => exact ⟨k + 1, by have := HK.out; omega, by go_num, HBE.out.trans ⟨rfl, rfl, rfl, Nat.le_refl _, fun _ _ => rfl⟩⟩
      case measure => have := HK.out; omega
    · go_wp2_with fail
      go_ret
      exact ⟨rfl, bthen HB0.out HBE.out (Nat.le_refl _)⟩
set_option maxHeartbeats 2000000 in
theorem r19Same_no (T T' n c m d : Nat) (A B : Option Addr) (w : World) (h : T ≠ T') :
    Calls Try.prog 11 #[.agg #[.int .u64 (T : Int), .slice A n c], .agg #[.int .u64 (T' : Int), .slice B m d]] w fun e w' => e = .returned (.bool false) ∧ Below w.heap.size w w' := by
  have d0 : ((T : Int) != (T' : Int)) = true := by rw [bne_iff_ne]; omega
  go_enter Try.func11, Try.ntmps11
  go_wp2_with fail
  go_ret
  exact ⟨rfl, (alloc1B w _).trans ((alloc1B _ _).mono (by simp))⟩
end Go.Proofs.Ytabnkbdbbneihaa
