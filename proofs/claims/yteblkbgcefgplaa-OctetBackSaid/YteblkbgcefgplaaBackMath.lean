/-
  PLAIN: what was written is read as it was: numbers as far as they had room, texts, bytes.
-/
import Derived.Test.YteblkbgcefgplaaText
namespace Go.Proofs.Yteblkbgcefgplaa

theorem append_left (a b : ByteArray) : (a ++ b).extract 0 a.size = a := ByteArray.extract_append_eq_left rfl
theorem append_right (a b : ByteArray) : (a ++ b).extract a.size (a ++ b).size = b := ByteArray.extract_append_eq_right rfl (by rw [ByteArray.size_append])
theorem size_zero {a : ByteArray} (h : a.size = 0) : a = ByteArray.empty := by
  apply ByteArray.ext
  have : a.data.size = 0 := h
  exact Array.eq_empty_of_size_eq_zero this
theorem empty_append (b : ByteArray) : ByteArray.empty ++ b = b := by
  apply ByteArray.ext
  simp
theorem raw_app (a b : ByteArray) : rawOut (a ++ b) (a.size : Nat) = a ∧ sRaw (a ++ b, 0) (a.size : Nat) = (b, 0) := by
  by_cases h : a.size = 0
  · have e := size_zero h
    rw [h]
    refine ⟨?_, ?_⟩
    · unfold rawOut; rw [if_pos (by simp)]; exact e.symm
    · unfold sRaw rawRest rawErr
      simp only
      rw [if_pos (by simp), if_neg (by simp), e, empty_append]
  · have hs : ((a ++ b).size : Int) = a.size + b.size := by rw [ByteArray.size_append]; omega
    refine ⟨?_, ?_⟩
    · unfold rawOut
      rw [if_neg (by omega), if_neg (by omega)]
      exact append_left a b
    · unfold sRaw rawRest rawErr
      simp only
      rw [if_neg (by omega), if_neg (by omega), if_neg (by omega)]
      rw [show ((a.size : Nat) : Int).toNat = a.size from by omega, append_right]
theorem numVal_be (k n : Nat) : numVal (ByteArray.mk (Oct.be k n).toArray) = n % 256 ^ k := by
  unfold numVal
  simp [Oct.val_be]
theorem num_app (k n : Nat) (b : ByteArray) : numVal (rawOut (ByteArray.mk (Oct.be k n).toArray ++ b) (k : Nat)) = n % 256 ^ k ∧ sRaw (ByteArray.mk (Oct.be k n).toArray ++ b, 0) (k : Nat) = (b, 0) := by
  have h := raw_app (ByteArray.mk (Oct.be k n).toArray) b
  rw [be_size] at h
  rw [h.1, numVal_be]
  exact ⟨rfl, h.2⟩
theorem bytes_assoc (a b c : ByteArray) : a ++ b ++ c = a ++ (b ++ c) := ByteArray.append_assoc
theorem text_app (t b : ByteArray) (ht : t.size ≤ 100) : oText (textB t ++ b, 0) 100 = t ∧ sText (textB t ++ b, 0) 100 = (b, 0) := by
  have e : textB t ++ b = ByteArray.mk (Oct.be 2 t.size).toArray ++ (t ++ b) := by unfold textB; exact bytes_assoc _ _ _
  have h := num_app 2 t.size (t ++ b)
  have hL : sLen (textB t ++ b, 0) = t.size := by
    unfold sLen
    rw [e, h.1]
    exact Nat.mod_eq_of_lt (by have : (256 : Nat) ^ 2 = 65536 := rfl; omega)
  have hM : sMid (textB t ++ b, 0) 100 = (t ++ b, 0) := by
    unfold sMid
    rw [if_neg (by rw [hL]; omega), e]
    exact h.2
  have h2 := raw_app t b
  unfold oText sText
  rw [hM, hL]
  exact h2
theorem foldl_enc (l : List It) (a : ByteArray) : l.foldl (fun o x => o ++ encIt x) a = a ++ enc l := by
  unfold enc
  induction l generalizing a with
  | nil =>
    apply ByteArray.ext
    simp
  | cons x l ih =>
    simp only [List.foldl_cons]
    rw [ih (a ++ encIt x), ih (ByteArray.empty ++ encIt x), empty_append, bytes_assoc]
theorem enc_cons (x : It) (l : List It) : enc (x :: l) = encIt x ++ enc l := by
  have h := foldl_enc l (ByteArray.empty ++ encIt x)
  rw [empty_append] at h
  rw [← h]
  unfold enc
  simp only [List.foldl_cons]
  rw [empty_append]
theorem enc_drop (l : List It) (k : Nat) (h : k < l.length) : enc (l.drop k) = encIt (l.getD k It.zero) ++ enc (l.drop (k + 1)) := by
  rw [List.drop_eq_getElem_cons h, enc_cons]
  simp [List.getD_eq_getElem?_getD, h]
theorem enc_nil : enc [] = ByteArray.empty := rfl
end Go.Proofs.Yteblkbgcefgplaa
