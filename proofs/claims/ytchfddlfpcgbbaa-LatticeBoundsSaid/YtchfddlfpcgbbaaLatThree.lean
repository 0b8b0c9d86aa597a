/-
  THREE LABELS in their boxes.
-/
import Derived.Test.YtchfddlfpcgbbaaLatLawUnder
namespace Go.Proofs.Ytchfddlfpcgbbaa
open Go.ChangeShapes Go.WideShapes Go.ChangeAt Go.RowKit

/-- three labels' boxes lie, and nothing that was there is written -/
structure Three (al sa bl sb cl sc : Nat) (w w' : World) : Prop where
  x0 : Box w.heap.size (.int .u8 (al : Int)) (.int .u32 (sa : Int)) w'
  x1 : Box (w.heap.size + 1) (.int .u8 (bl : Int)) (.int .u32 (sb : Int)) w'
  x2 : Box (w.heap.size + 1 + 1) (.int .u8 (cl : Int)) (.int .u32 (sc : Int)) w'
  below : Below w.heap.size w w'
  size : w.heap.size + 1 + 1 < w'.heap.size
theorem Three.far {al sa bl sb cl sc : Nat} {w a b : World} (h : Three al sa bl sb cl sc w a) (hb : Below (w.heap.size + 1 + 1 + 1) a b) : Three al sa bl sb cl sc w b :=
  ⟨h.x0.below hb (by omega), h.x1.below hb (by omega), h.x2.below hb (by omega), Below.trans h.below (hb.mono (by omega)), Nat.lt_of_lt_of_le h.size hb.size⟩
theorem Three.on {al sa bl sb cl sc : Nat} {w a b : World} (h : Three al sa bl sb cl sc w a) (hb : Below a.heap.size a b) : Three al sa bl sb cl sc w b := h.far (hb.mono h.size)
theorem Three.drew {al sa bl sb cl sc : Nat} {w a : World} (h : Three al sa bl sb cl sc w a) : Three al sa bl sb cl sc w a.drew := h.on (Below.refl _ _).drew
theorem Three.start (al sa bl sb cl sc : Nat) (t : TypeId) (w : World) : Three al sa bl sb cl sc w (((w.alloc (.cells #[.int .u8 (al : Int), .int .u32 (sa : Int)] t)).alloc (.cells #[.int .u8 (bl : Int), .int .u32 (sb : Int)] t)).alloc (.cells #[.int .u8 (cl : Int), .int .u32 (sc : Int)] t)) := by
  have y1 := Box.new (.int .u8 (bl : Int)) (.int .u32 (sb : Int)) t (w.alloc (.cells #[.int .u8 (al : Int), .int .u32 (sa : Int)] t))
  have y2 := Box.new (.int .u8 (cl : Int)) (.int .u32 (sc : Int)) t ((w.alloc (.cells #[.int .u8 (al : Int), .int .u32 (sa : Int)] t)).alloc (.cells #[.int .u8 (bl : Int), .int .u32 (sb : Int)] t))
  simp at y1 y2
  exact ⟨((Box.new _ _ _ w).below ((Below.refl _ _).alloc (Nat.le_refl _) _) (by simp)).below ((Below.refl _ _).alloc (Nat.le_refl _) _) (by simp; omega), y1.below ((Below.refl _ _).alloc (Nat.le_refl _) _) (by simp), y2,
    (((Below.refl _ _).alloc (Nat.le_refl _) _).alloc (by simp) _).alloc (by simp; omega) _, by simp⟩
abbrev ThreeS (al sa bl sb cl sc : Nat) (w a : World) : Prop := a.cell? ⟨w.heap.size, 0, none⟩ = some (.int .u8 (al : Int)) ∧ a.cell? ⟨w.heap.size, 1, none⟩ = some (.int .u32 (sa : Int)) ∧
      a.cell? ⟨w.heap.size + 1, 0, none⟩ = some (.int .u8 (bl : Int)) ∧ a.cell? ⟨w.heap.size + 1, 1, none⟩ = some (.int .u32 (sb : Int)) ∧
      a.cell? ⟨w.heap.size + 1 + 1, 0, none⟩ = some (.int .u8 (cl : Int)) ∧ a.cell? ⟨w.heap.size + 1 + 1, 1, none⟩ = some (.int .u32 (sc : Int)) ∧ Three al sa bl sb cl sc w a
theorem Three.cells {al sa bl sb cl sc : Nat} {w a : World} (h : Three al sa bl sb cl sc w a) : ThreeS al sa bl sb cl sc w a := ⟨h.x0.1, h.x0.2.1, h.x1.1, h.x1.2.1, h.x2.1, h.x2.2.1, h⟩
theorem Three.keep {al sa bl sb cl sc : Nat} {w a b : World} (h : ThreeS al sa bl sb cl sc w a) (hb : Below a.heap.size a b) : ThreeS al sa bl sb cl sc w b := (h.2.2.2.2.2.2.on hb).cells
attribute [local go_sem ↓] lab_eql
attribute [local go_sem] guard24
theorem lab_same (al sa bl sb : Nat) : ((((al : Int) == (bl : Int)) && ((sa : Int) == (sb : Int))) = true) ↔ al = bl ∧ sa = sb := by
  rw [Bool.and_eq_true, beq_iff_eq, beq_iff_eq]; omega
theorem lab_iff {al sa bl sb : Nat} {u v : Bool} (h1 : u = true → v = true → al = bl ∧ sa = sb) (h2 : al = bl → sa = sb → u = true ∧ v = true) : (((al : Int) == (bl : Int)) && ((sa : Int) == (sb : Int))) = (u && v) := by
  rw [Bool.eq_iff_iff, lab_same, Bool.and_eq_true]
  exact ⟨fun h => h2 h.1 h.2, fun h => h1 h.1 h.2⟩
end Go.Proofs.Ytchfddlfpcgbbaa
