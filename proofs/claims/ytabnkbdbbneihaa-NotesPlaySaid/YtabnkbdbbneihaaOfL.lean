/-
  PLAIN: a list of bytes as a text. No program is spoken of here.
-/
import Derived.WalkKit
namespace Go.Proofs.Ytabnkbdbbneihaa
/-- bytes as a text -/
def ofL (l : List UInt8) : ByteArray := ⟨l.toArray⟩
theorem ofL_toList (s : ByteArray) : ofL s.data.toList = s := by
  unfold ofL; rw [Array.toArray_toList]
theorem toList_ofL (l : List UInt8) : (ofL l).data.toList = l := rfl
theorem ofL_size (l : List UInt8) : (ofL l).size = l.length := by
  show l.toArray.size = _; rw [List.size_toArray]
theorem list_extract (s : ByteArray) (i j : Nat) : (s.extract i j).data.toList = (s.data.toList.drop i).take (j - i) := by
  rw [ByteArray.data_extract, Array.toList_extract, List.extract_eq_take_drop]
theorem extract_drop (s : ByteArray) (k : Nat) : s.extract k s.size = ofL (s.data.toList.drop k) := by
  rw [← ofL_toList (s.extract k s.size), list_extract, List.take_of_length_le]
  rw [List.length_drop]; exact Nat.le_refl _
theorem ofL_app (a b : List UInt8) : ofL a ++ ofL b = ofL (a ++ b) := by
  apply ByteArray.ext
  rw [ByteArray.data_append]
  show a.toArray ++ b.toArray = (a ++ b).toArray
  simp
theorem ofL_cons (b : UInt8) (l : List UInt8) : (⟨#[b]⟩ : ByteArray) ++ ofL l = ofL (b :: l) := ofL_app [b] l
theorem ofL_str (x : List UInt8) : (ofL x).toList = x := by rw [ByteArray.toList_eq]; rfl
theorem ofL_beq (x y : List UInt8) : ((ofL x).toList == (ofL y).toList) = decide (x = y) := by rw [ofL_str, ofL_str]; by_cases h : x = y <;> simp [h]
theorem ofL_get (l : List UInt8) (i : Nat) (h : i < (ofL l).size) : (ofL l)[i]'h = l.getD i 0 := by
  have h' : i < l.length := by rw [← ofL_size l]; exact h
  rw [List.getD_eq_getElem?_getD, List.getElem?_eq_getElem h']
  rfl
/-- a byte of a text -/
theorem idx_l {P : Program} {t : TypeId} (ht : P.underlying t = some .string) (l : List UInt8) (k : IntKind) (i : Int) (j : Nat) (hi : i = (j : Int)) (h : j < l.length) (W : World) :
    (Instr.index t (.string (ofL l)) (.int k i)).run P W = .ok (.int .u8 ((l.getD j 0).toNat : Int)) W := by
  subst hi
  have hz := ofL_size l
  rw [run_index_string W t (ofL l) k (j : Int) ht, dif_pos ⟨by omega, by omega⟩]
  have := ofL_get l j (by omega)
  simp only [Int.toNat_natCast]
  rw [this]
/-- a piece of a text -/
theorem slice_l {P : Program} {t : TypeId} (ht : P.underlying t = some .string) (l : List UInt8) (k k' : IntKind) (i j : Int) (a b : Nat) (hi : i = (a : Int)) (hj : j = (b : Int)) (h1 : a ≤ b) (h2 : b ≤ l.length) (W : World) :
    (Instr.slice t (.string (ofL l)) (some (.int k i)) (some (.int k' j)) none).run P W = .ok (.string (ofL ((l.drop a).take (b - a)))) W := by
  subst hi hj
  have hz := ofL_size l
  rw [run_slice_string W t (ofL l) k k' (a : Int) (b : Int) ht (by omega) (by omega) (by omega), Int.toNat_natCast, Int.toNat_natCast, ← ofL_toList ((ofL l).extract a b), list_extract, toList_ofL]
theorem slice_to_l {P : Program} {t : TypeId} (ht : P.underlying t = some .string) (l : List UInt8) (k : IntKind) (j : Int) (b : Nat) (hj : j = (b : Int)) (h2 : b ≤ l.length) (W : World) :
    (Instr.slice t (.string (ofL l)) none (some (.int k j)) none).run P W = .ok (.string (ofL (l.take b))) W := by
  subst hj
  have hz := ofL_size l
  rw [run_slice_string_to_if W t (ofL l) k (b : Int) ht, if_pos ⟨by omega, by omega⟩, Int.toNat_natCast, ← ofL_toList ((ofL l).extract 0 b), list_extract, toList_ofL]
  simp
theorem slice_from_l {P : Program} {t : TypeId} (ht : P.underlying t = some .string) (l : List UInt8) (k : IntKind) (i : Int) (a : Nat) (hi : i = (a : Int)) (h2 : a ≤ l.length) (W : World) :
    (Instr.slice t (.string (ofL l)) (some (.int k i)) none none).run P W = .ok (.string (ofL (l.drop a))) W := by
  subst hi
  have hz := ofL_size l
  rw [run_slice_string_from_if W t (ofL l) k (a : Int) ht, if_pos ⟨by omega, by omega⟩, Int.toNat_natCast, extract_drop, toList_ofL]
end Go.Proofs.Ytabnkbdbbneihaa
