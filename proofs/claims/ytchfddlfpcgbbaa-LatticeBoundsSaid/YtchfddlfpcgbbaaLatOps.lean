/-
  MAY A LABEL BE; the lowest above two, the highest below two: walked.
-/
import Derived.Test.YtchfddlfpcgbbaaLatDigits
namespace Go.Proofs.Ytchfddlfpcgbbaa
open Go.ChangeShapes Go.WideShapes Go.ChangeAt Go.RowKit

theorem right_any (al sa : Nat) (w : World) :
    Calls Try.prog 9 #[.agg #[.int .u8 (al : Int), .int .u32 (sa : Int)]] w fun e w' => e = .returned (.bool (decide (al ≤ 15))) ∧ Below w.heap.size w w' := by
  have H := Lib.hid (show decide ((al : Int) ≤ 15) = decide (al ≤ 15) by rw [Bool.eq_iff_iff]; simp only [decide_eq_true_eq]; omega)
  go_enter Try.func9, Try.ntmps9
  go_wp2
  go_ret
  exact ⟨ret_bool H.out, (Below.refl _ _).alloc (Nat.le_refl _) _⟩
theorem join_any (al sa bl sb : Nat) (w : World) (h1 : sa < 4294967296) (h2 : sb < 4294967296) :
    Calls Try.prog 10 #[.agg #[.int .u8 (al : Int), .int .u32 (sa : Int)], .agg #[.int .u8 (bl : Int), .int .u32 (sb : Int)]] w fun e w' => e = .returned (.agg #[.int .u8 ((max al bl : Nat) : Int), .int .u32 ((sa ||| sb : Nat) : Int)]) ∧ Below w.heap.size w w' := by
  have H := Lib.hid (u32_or_nat sa sb h1 h2)
  by_cases h : al < bl
  · have HM := Lib.hid (show max al bl = bl by omega)
    go_enter Try.func10, Try.ntmps10
    go_wp2
    refine bodyPost_ret (v := .agg #[.int .u8 (bl : Int), .int .u32 (bits .or .u32 (sa : Int) (sb : Int))]) (by simp [results, Try.results10, go_sem]) rfl ⟨?_, (((Below.refl _ _).alloc (Nat.le_refl _) _).alloc (by simp) _).alloc (by simp; omega) _⟩
    rw [HM.out, H.out]
  · have HM := Lib.hid (show max al bl = al by omega)
    go_enter Try.func10, Try.ntmps10
    go_wp2
    refine bodyPost_ret (v := .agg #[.int .u8 (al : Int), .int .u32 (bits .or .u32 (sa : Int) (sb : Int))]) (by simp [results, Try.results10, go_sem]) rfl ⟨?_, (((Below.refl _ _).alloc (Nat.le_refl _) _).alloc (by simp) _).alloc (by simp; omega) _⟩
    rw [HM.out, H.out]
theorem meet_any (al sa bl sb : Nat) (w : World) (h1 : sa < 4294967296) (h2 : sb < 4294967296) :
    Calls Try.prog 11 #[.agg #[.int .u8 (al : Int), .int .u32 (sa : Int)], .agg #[.int .u8 (bl : Int), .int .u32 (sb : Int)]] w fun e w' => e = .returned (.agg #[.int .u8 ((min al bl : Nat) : Int), .int .u32 ((sa &&& sb : Nat) : Int)]) ∧ Below w.heap.size w w' := by
  have H := Lib.hid (u32_and_nat sa sb h1 h2)
  by_cases h : bl < al
  · have HM := Lib.hid (show min al bl = bl by omega)
    go_enter Try.func11, Try.ntmps11
    go_wp2
    refine bodyPost_ret (v := .agg #[.int .u8 (bl : Int), .int .u32 (bits .and .u32 (sa : Int) (sb : Int))]) (by simp [results, Try.results11, go_sem]) rfl ⟨?_, (((Below.refl _ _).alloc (Nat.le_refl _) _).alloc (by simp) _).alloc (by simp; omega) _⟩
    rw [HM.out, H.out]
  · have HM := Lib.hid (show min al bl = al by omega)
    go_enter Try.func11, Try.ntmps11
    go_wp2
    refine bodyPost_ret (v := .agg #[.int .u8 (al : Int), .int .u32 (bits .and .u32 (sa : Int) (sb : Int))]) (by simp [results, Try.results11, go_sem]) rfl ⟨?_, (((Below.refl _ _).alloc (Nat.le_refl _) _).alloc (by simp) _).alloc (by simp; omega) _⟩
    rw [HM.out, H.out]
end Go.Proofs.Ytchfddlfpcgbbaa
