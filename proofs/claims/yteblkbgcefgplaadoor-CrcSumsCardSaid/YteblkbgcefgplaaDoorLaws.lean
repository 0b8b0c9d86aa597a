/-
  THE LAWS OF THE STEP, walked: crc.Step is the document's own step; unlike registers step to unlike ones, unlike bytes step one register to unlike ones.
-/
import Derived.Test.YteblkbgcefgplaaDoorAwake
import Derived.Deep.DeepHandedRow
namespace Go.Proofs.YteblkbgcefgplaaDoor
open Go.ChangeShapes Go.WideShapes Go.ChangeAt Go.RowKit

set_option maxHeartbeats 1000000 in
theorem steps_walk (r b : Nat) (w : World) (hr : r < 4294967296) (hb : b < 256) (hT : Tab w) :
    Calls Tryd.prog 4 #[.int .u32 (r : Int), .int .u8 (b : Int)] w fun e w' => e = .returned (.bool true) ∧ Below w.heap.size w w' := by
  have HT := Lib.hid hT
  clear hT
  go_enter Tryd.func4, Tryd.ntmps4
  go_wp2_with fail
  refine (awake_any _ HT.out).mono ?_
  rintro e w1 ⟨rfl, hb1⟩
  have HT1 := Lib.hid (HT.out.below hb1 HT.out.pos)
  go_wp2_with fail
  refine (step_any _ _ _ hr hb HT1.out).mono ?_
  rintro e w' ⟨rfl, rfl⟩
  go_wp2_with fail
  refine (rstep_any _ _ _ hr hb).mono ?_
  rintro e w' ⟨rfl, rfl⟩
  go_wp2_with fail
  go_ret
  exact ⟨rfl, hb1⟩

theorem beq_of_iff {p q : Bool} (h : p = true ↔ q = true) : (p == q) = true := by cases p <;> cases q <;> simp_all
set_option maxHeartbeats 1000000 in
theorem apart_walk (r s a b : Nat) (w : World) (hr : r < 4294967296) (hs : s < 4294967296) (ha : a < 256) (hb : b < 256) (hT : Tab w) :
    Calls Tryd.prog 5 #[.int .u32 (r : Int), .int .u32 (s : Int), .int .u8 (a : Int), .int .u8 (b : Int)] w fun e w' => e = .returned (.bool true) ∧ Below w.heap.size w w' := by
  have HT := Lib.hid hT
  clear hT
  have h1 : (((Crc.step r a : Nat) : Int) == ((Crc.step s a : Nat) : Int)) = ((r : Int) == (s : Int)) := by
    have h := Crc.step_eq_iff (b := a) hr hs (by omega)
    rw [Bool.eq_iff_iff]
    simp only [beq_iff_eq]
    omega
  have h2 : (((Crc.step r a : Nat) : Int) == ((Crc.step r b : Nat) : Int)) = ((a : Int) == (b : Int)) := by
    have h := Crc.byte_eq_iff (r := r) (a := a) (b := b) hr (by omega) (by omega)
    rw [Bool.eq_iff_iff]
    simp only [beq_iff_eq]
    omega
  have H1 := Lib.hid h1
  have H2 := Lib.hid h2
  clear h1 h2
  go_enter Tryd.func5, Tryd.ntmps5
  go_wp2_with fail
  refine (awake_any _ HT.out).mono ?_
  rintro e w1 ⟨rfl, hb1⟩
  have HT1 := Lib.hid (HT.out.below hb1 HT.out.pos)
  go_wp2_with fail
  refine (step_any _ _ _ hr ha HT1.out).mono ?_
  rintro e w' ⟨rfl, rfl⟩
  go_wp2_with fail
  refine (step_any _ _ _ hs ha HT1.out).mono ?_
  rintro e w' ⟨rfl, rfl⟩
  have h1 := H1.out
  go_wp2_with fail
  refine (step_any _ _ _ hr ha HT1.out).mono ?_
  rintro e w' ⟨rfl, rfl⟩
  go_wp2_with fail
  refine (step_any _ _ _ hr hb HT1.out).mono ?_
  rintro e w' ⟨rfl, rfl⟩
  have h2 := H2.out
  go_wp2_with fail
  go_ret
  exact ⟨rfl, hb1⟩

/-! ### The rows: what both laws' proofs open and shut alike -/
theorem own : ownKnob Tryd.prog.godebug = none := by kernel_rfl
theorem laidOut : laidOutB Tryd.prog = true := by kernel_rfl
theorem gTab : Tryd.prog.globalNamed "stairwell/crc.laid" = some 0 := by kernel_rfl
theorem gTabType : (Tryd.prog.globals[0]?).map (·.type) = some 36 := by kernel_rfl
theorem cells36 : Tryd.prog.cellsOf 36 = 16 := by kernel_rfl
theorem cells23 : Tryd.prog.cellsOf 23 = 1 := by kernel_rfl
theorem tab_of {W : World} (h : laidMetH Tryd.prog [("stairwell/crc.laid", Rows.laid_stairwell_crc_laid)] W) : Tab W :=
  have t : Lib.TabIs Tryd.prog W "stairwell/crc.laid" .u32 Crc.table := Lib.tabIs_of_head (rest := []) gTab gTabType Tryd.underlying36 Tryd.underlying23 cells23 cells36 h
  fun i hi => t.cell gTab i (by simpa [Crc.table] using hi)
end Go.Proofs.YteblkbgcefgplaaDoor
