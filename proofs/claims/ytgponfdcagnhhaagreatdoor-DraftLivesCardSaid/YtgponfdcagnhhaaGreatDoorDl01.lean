/-
  PLAIN: a list of bytes as a text. No program is spoken of here.
-/

import Derived.WalkKit
section
namespace Go.Proofs.YtgponfdcagnhhaaGreatDoor
/-- bytes as a text -/
def ofL (l : List UInt8) : ByteArray := ⟨l.toArray⟩
theorem ofL_toList (s : ByteArray) : ofL s.data.toList = s := by
  unfold ofL; rw [Array.toArray_toList]
theorem list_extract (s : ByteArray) (i j : Nat) : (s.extract i j).data.toList = (s.data.toList.drop i).take (j - i) := by
  rw [ByteArray.data_extract, Array.toList_extract, List.extract_eq_take_drop]
theorem extract_drop (s : ByteArray) (k : Nat) : s.extract k s.size = ofL (s.data.toList.drop k) := by
  rw [← ofL_toList (s.extract k s.size), list_extract, List.take_of_length_le]
  rw [List.length_drop]; exact Nat.le_refl _
end Go.Proofs.YtgponfdcagnhhaaGreatDoor
end
