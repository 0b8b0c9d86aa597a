/-
  THE LAW ON ANY TWO LABELS, walked.
-/
import Derived.Test.YtchfddlfpcgbbaaLatAwake
import Derived.Test.YtchfddlfpcgbbaaLatEq
namespace Go.Proofs.Ytchfddlfpcgbbaa
open Go.ChangeShapes Go.WideShapes Go.ChangeAt Go.RowKit

/-- both labels' boxes lie, and nothing that was there is written -/
structure Both (al sa bl sb : Nat) (w w' : World) : Prop where
  x0 : Box w.heap.size (.int .u8 (al : Int)) (.int .u32 (sa : Int)) w'
  x1 : Box (w.heap.size + 1) (.int .u8 (bl : Int)) (.int .u32 (sb : Int)) w'
  below : Below w.heap.size w w'
  size : w.heap.size + 1 < w'.heap.size
theorem Both.on {al sa bl sb : Nat} {w a b : World} (h : Both al sa bl sb w a) (hb : Below a.heap.size a b) : Both al sa bl sb w b :=
  ⟨h.x0.below hb (by have := h.size; omega), h.x1.below hb h.size, Below.trans h.below (hb.mono h.below.size), Nat.lt_of_lt_of_le h.size hb.size⟩
theorem Both.drew {al sa bl sb : Nat} {w a : World} (h : Both al sa bl sb w a) : Both al sa bl sb w a.drew := h.on (Below.refl _ _).drew
theorem Both.cells {al sa bl sb : Nat} {w a : World} (h : Both al sa bl sb w a) : a.cell? ⟨w.heap.size, 0, none⟩ = some (.int .u8 (al : Int)) ∧ a.cell? ⟨w.heap.size, 1, none⟩ = some (.int .u32 (sa : Int)) ∧
      a.cell? ⟨w.heap.size + 1, 0, none⟩ = some (.int .u8 (bl : Int)) ∧ a.cell? ⟨w.heap.size + 1, 1, none⟩ = some (.int .u32 (sb : Int)) ∧ Both al sa bl sb w a := ⟨h.x0.1, h.x0.2.1, h.x1.1, h.x1.2.1, h⟩
theorem Both.keep {al sa bl sb : Nat} {p q r s : Prop} {w a b : World} (h : p ∧ q ∧ r ∧ s ∧ Both al sa bl sb w a) (hb : Below a.heap.size a b) :
    b.cell? ⟨w.heap.size, 0, none⟩ = some (.int .u8 (al : Int)) ∧ b.cell? ⟨w.heap.size, 1, none⟩ = some (.int .u32 (sa : Int)) ∧
      b.cell? ⟨w.heap.size + 1, 0, none⟩ = some (.int .u8 (bl : Int)) ∧ b.cell? ⟨w.heap.size + 1, 1, none⟩ = some (.int .u32 (sb : Int)) ∧ Both al sa bl sb w b := (h.2.2.2.2.on hb).cells
set_option maxHeartbeats 2000000 in
theorem lawUnder_walk (al sa bl sb : Nat) (w : World) (h1 : sa < 4294967296) (h2 : sb < 4294967296) :
    Calls Try.prog 3 #[.agg #[.int .u8 (al : Int), .int .u32 (sa : Int)], .agg #[.int .u8 (bl : Int), .int .u32 (sb : Int)]] w fun e w' => e = .returned (.bool true) ∧ Below w.heap.size w w' := by
  have HU := Lib.hid (fun W => under_any al sa bl sb W h1 h2)
  have HF := Lib.hid (fun W => refUnder_any al sa bl sb W)
  have HR := Lib.hid (fun W => right_any al sa W)
  have HD := Lib.hid (show decide ((al : Int) ≤ 15) = decide (al ≤ 15) by rw [Bool.eq_iff_iff]; simp only [decide_eq_true_eq]; omega)
  generalize Lat.under al sa bl sb = U at *
  have hst : Both al sa bl sb w ((w.alloc (.cells #[.int .u8 (al : Int), .int .u32 (sa : Int)] 24)).alloc (.cells #[.int .u8 (bl : Int), .int .u32 (sb : Int)] 24)) :=
    ⟨(Box.new _ _ _ w).below ((Below.refl _ _).alloc (Nat.le_refl _) _) (by simp), by
      have := Box.new (.int .u8 (bl : Int)) (.int .u32 (sb : Int)) 24 (w.alloc (.cells #[.int .u8 (al : Int), .int .u32 (sa : Int)] 24)); simpa using this, ((Below.refl _ _).alloc (Nat.le_refl _) _).alloc (by simp) _, by simp⟩
  have HST := Lib.hid hst
  clear hst
  go_enter Try.func3, Try.ntmps3
  go_wp2_with fail
  refine (awake_any _).mono ?_
  rintro x w1 ⟨rfl, b1⟩
  have q1 := HST.out.on b1
  clear b1
  go_wp2_with fail
  obtain ⟨c0, c1, -⟩ := q1.x0
  obtain ⟨d0, d1, -⟩ := q1.x1
  go_region_held3 (fun w' => w'.cell? ⟨w.heap.size, 0, none⟩ = some (.int .u8 (al : Int)) ∧ w'.cell? ⟨w.heap.size, 1, none⟩ = some (.int .u32 (sa : Int)) ∧
      w'.cell? ⟨w.heap.size + 1, 0, none⟩ = some (.int .u8 (bl : Int)) ∧ w'.cell? ⟨w.heap.size + 1, 1, none⟩ = some (.int .u32 (sb : Int)) ∧ Both al sa bl sb w w')
    (first
      | exact q1.drew.cells
      | exact Both.keep (by assumption) hb2)
    ((first
      | (go_at_call 7; refine (HU.out _).mono ?_; rintro e' w2 ⟨rfl, hb2⟩)
      | (go_at_call 8; refine (HF.out _).mono ?_; rintro e' w2 ⟨rfl, hb2⟩)
      | (go_at_call 9; refine (HR.out _).mono ?_; rintro e' w2 ⟨rfl, hb2⟩)))
  rename_i hlast
  have HB := Lib.hid hlast.2.2.2.2.below
  clear hlast
  go_wp2_with fail
  go_ret
  exact ⟨ret_bool (by rw [HD.out]; simp), HB.out⟩
end Go.Proofs.Ytchfddlfpcgbbaa
