/-
  OCTET's OTHER CALLS, walked: a text that is read, what is left, the error; a text that is too long. PLAIN: a list of bytes as a text. No program is spoken of here.
-/
import Derived.Test.YtnamkglflhkckaaDoorMa03
import Derived.WalkKit
section
namespace Go.Proofs.YtnamkglflhkckaaDoor
open Go.ChangeShapes Go.WideShapes Go.ChangeAt Go.RowKit
/-- what an object that reads has: what is left, and the error -/
abbrev St := ByteArray × Int
def St.ok (s : St) : Prop := s.2 ≠ 0 → s.1 = ByteArray.empty
/-! ### the examples -/
end Go.Proofs.YtnamkglflhkckaaDoor
end
section
namespace Go.Proofs.YtnamkglflhkckaaDoor
/-- bytes as a text -/
def ofL (l : List UInt8) : ByteArray := ⟨l.toArray⟩
theorem ofL_toList (s : ByteArray) : ofL s.data.toList = s := by
  unfold ofL; rw [Array.toArray_toList]
theorem ofL_size (l : List UInt8) : (ofL l).size = l.length := by
  show l.toArray.size = _; rw [List.size_toArray]
theorem list_extract (s : ByteArray) (i j : Nat) : (s.extract i j).data.toList = (s.data.toList.drop i).take (j - i) := by
  rw [ByteArray.data_extract, Array.toList_extract, List.extract_eq_take_drop]
theorem extract_drop (s : ByteArray) (k : Nat) : s.extract k s.size = ofL (s.data.toList.drop k) := by
  rw [← ofL_toList (s.extract k s.size), list_extract, List.take_of_length_le]
  rw [List.length_drop]; exact Nat.le_refl _
theorem ofL_app (a b : List UInt8) : ofL a ++ ofL b = ofL (a ++ b) := by
  apply ByteArray.ext
  rw [ByteArray.data_append]
  show a.toArray ++ b.toArray = (a ++ b).toArray
  simp
theorem ofL_str (x : List UInt8) : (ofL x).toList = x := by rw [ByteArray.toList_eq]; rfl
end Go.Proofs.YtnamkglflhkckaaDoor
end
