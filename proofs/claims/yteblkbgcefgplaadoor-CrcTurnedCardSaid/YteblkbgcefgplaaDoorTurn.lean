/-
  PLAIN: a list of bytes with four in a row turned, told place by place; its sum is another one.
-/
import Derived.Test.YteblkbgcefgplaaDoorMath
namespace Go.Proofs.YteblkbgcefgplaaDoor.Crc

/-- the byte at place j when the first n of four places from K on have been turned -/
def cellv (l : List UInt8) (K : Nat) (t : Nat → UInt8) (n j : Nat) : UInt8 := if K ≤ j ∧ j < K + n then (l.getD j 0) ^^^ (t (j - K)) else l.getD j 0
def turnedList (l : List UInt8) (K : Nat) (t : Nat → UInt8) : List UInt8 := (List.range l.length).map (cellv l K t 4)

theorem cellv_zero (l : List UInt8) (K : Nat) (t : Nat → UInt8) (j : Nat) : cellv l K t 0 j = l.getD j 0 := by
  unfold cellv; rw [if_neg (by omega)]
theorem cellv_next (l : List UInt8) (K : Nat) (t : Nat → UInt8) (n : Nat) : cellv l K t n (K + n) = l.getD (K + n) 0 := by
  unfold cellv; rw [if_neg (by omega)]
theorem cellv_at (l : List UInt8) (K : Nat) (t : Nat → UInt8) (n : Nat) : cellv l K t (n + 1) (K + n) = (l.getD (K + n) 0) ^^^ (t n) := by
  unfold cellv; rw [if_pos (by omega), show K + n - K = n from by omega]
theorem cellv_other (l : List UInt8) (K : Nat) (t : Nat → UInt8) (n j : Nat) (h : j ≠ K + n) : cellv l K t (n + 1) j = cellv l K t n j := by
  unfold cellv
  by_cases h1 : K ≤ j ∧ j < K + n
  · rw [if_pos (by omega), if_pos h1]
  · rw [if_neg (by omega), if_neg h1]

theorem getD_eq {l : List UInt8} {j : Nat} (h : j < l.length) : l.getD j 0 = l[j] := by
  rw [List.getD_eq_getElem?_getD, List.getElem?_eq_getElem h]; rfl
theorem parts (l : List UInt8) (K : Nat) (h : K + 4 ≤ l.length) : l = l.take K ++ l.getD K 0 :: l.getD (K + 1) 0 :: l.getD (K + 2) 0 :: l.getD (K + 3) 0 :: l.drop (K + 4) := by
  have e := (List.take_append_drop K l).symm
  rw [List.drop_eq_getElem_cons (show K < l.length by omega), List.drop_eq_getElem_cons (show K + 1 < l.length by omega), List.drop_eq_getElem_cons (show K + 1 + 1 < l.length by omega),
    List.drop_eq_getElem_cons (show K + 1 + 1 + 1 < l.length by omega)] at e
  rw [getD_eq (show K < l.length by omega), getD_eq (show K + 1 < l.length by omega), getD_eq (show K + 2 < l.length by omega), getD_eq (show K + 3 < l.length by omega)]
  exact e
theorem length_turned (l : List UInt8) (K : Nat) (t : Nat → UInt8) : (turnedList l K t).length = l.length := by simp [turnedList]
theorem turned_getD (l : List UInt8) (K : Nat) (t : Nat → UInt8) (j : Nat) (h : j < l.length) : (turnedList l K t).getD j 0 = cellv l K t 4 j := by
  simp [turnedList, List.getD_eq_getElem?_getD, h]
theorem turned_take (l : List UInt8) (K : Nat) (t : Nat → UInt8) (h : K + 4 ≤ l.length) : (turnedList l K t).take K = l.take K := by
  apply List.ext_getElem
  · simp [turnedList]
  · intro i h1 h2
    simp only [List.length_take] at h1 h2
    simp only [turnedList, List.getElem_take, List.getElem_map, List.getElem_range]
    unfold cellv
    rw [if_neg (by omega), getD_eq (by omega)]
theorem turned_drop (l : List UInt8) (K : Nat) (t : Nat → UInt8) : (turnedList l K t).drop (K + 4) = l.drop (K + 4) := by
  apply List.ext_getElem
  · simp [turnedList]
  · intro i h1 h2
    simp only [List.length_drop] at h1 h2
    simp only [turnedList, List.getElem_drop, List.getElem_map, List.getElem_range]
    unfold cellv
    rw [if_neg (by omega), getD_eq (by omega)]
theorem xor_self_eq {a t : UInt8} (h : a ^^^ t = a) : t = 0 := by
  have : a ^^^ (a ^^^ t) = t := by rw [← UInt8.xor_assoc, UInt8.xor_self, UInt8.zero_xor]
  rw [h, UInt8.xor_self] at this
  exact this.symm
theorem turned_ne (l : List UInt8) (K : Nat) (t : Nat → UInt8) (h : K + 4 ≤ l.length) (hne : ([t 0, t 1, t 2, t 3] == [0, 0, 0, 0]) = false) : sum (turnedList l K t) ≠ sum l := by
  intro heq
  have e2 := parts (turnedList l K t) K (by rw [length_turned]; exact h)
  rw [turned_take l K t h, turned_drop, turned_getD _ _ _ _ (by omega), turned_getD _ _ _ _ (by omega), turned_getD _ _ _ _ (by omega), turned_getD _ _ _ _ (by omega)] at e2
  have e1 := parts l K h
  have c0 : cellv l K t 4 K = l.getD K 0 ^^^ t 0 := by unfold cellv; rw [if_pos (by omega), Nat.sub_self]
  have c1 : cellv l K t 4 (K + 1) = l.getD (K + 1) 0 ^^^ t 1 := by unfold cellv; rw [if_pos (by omega), show K + 1 - K = 1 from by omega]
  have c2 : cellv l K t 4 (K + 2) = l.getD (K + 2) 0 ^^^ t 2 := by unfold cellv; rw [if_pos (by omega), show K + 2 - K = 2 from by omega]
  have c3 : cellv l K t 4 (K + 3) = l.getD (K + 3) 0 ^^^ t 3 := by unfold cellv; rw [if_pos (by omega), show K + 3 - K = 3 from by omega]
  rw [c0, c1, c2, c3] at e2
  have hs : sum (l.take K ++ (l.getD K 0 ^^^ t 0) :: (l.getD (K + 1) 0 ^^^ t 1) :: (l.getD (K + 2) 0 ^^^ t 2) :: (l.getD (K + 3) 0 ^^^ t 3) :: l.drop (K + 4))
      = sum (l.take K ++ l.getD K 0 :: l.getD (K + 1) 0 :: l.getD (K + 2) 0 :: l.getD (K + 3) 0 :: l.drop (K + 4)) := by rw [← e2, ← e1]; exact heq
  obtain ⟨h0, h1, h2, h3⟩ := turned _ _ _ _ _ _ _ _ _ _ hs
  rw [xor_self_eq h0, xor_self_eq h1, xor_self_eq h2, xor_self_eq h3] at hne
  exact absurd hne (by decide)
end Go.Proofs.YteblkbgcefgplaaDoor.Crc
