/-
  WHAT WAS WRITTEN is read as it was: notes' bytes, plainly.
-/
import Derived.Test.YtabnkbdbbneihaaNtU
namespace Go.Proofs.Ytabnkbdbbneihaa
namespace Nt
theorem lOutN (a r : List UInt8) (n : Nat) (h : a.length = n) : lOut (a ++ r) n = a := by
  rw [lOut_of (by rw [List.length_append]; omega), List.take_left' h]
theorem lRawN (a r : List UInt8) (e : Int) (n : Nat) (h : a.length = n) : lRaw (a ++ r, e) n = (r, e) := by
  rw [lRaw_of (by rw [List.length_append]; omega), List.drop_left' h]
theorem valN (k n : Nat) (h : n < 256 ^ k) : Oct.val (Oct.be k n) = n := by rw [Oct.val_be, Nat.mod_eq_of_lt h]
theorem textN (x r : List UInt8) (m : Nat) (hx : x.length ≤ m) (hm : m < 65536) : lTextOut (Oct.text x ++ r, 0) m = x ∧ lText (Oct.text x ++ r, 0) m = (r, 0) := by
  have e : Oct.text x ++ r = Oct.be 2 x.length ++ (x ++ r) := by unfold Oct.text; rw [List.append_assoc]
  have h1 : lLen (Oct.text x ++ r, 0) = x.length := by
    unfold lLen
    rw [e, lOutN _ _ 2 (Oct.length_be _ _), valN 2 _ (by show x.length < 65536; omega)]
  have h2 : lMid (Oct.text x ++ r, 0) m = (x ++ r, 0) := by
    unfold lMid
    rw [h1, if_neg (by omega), e, lRawN _ _ _ 2 (Oct.length_be _ _)]
  unfold lTextOut lText
  rw [h1, h2]
  exact ⟨lOutN _ _ _ rfl, lRawN _ _ _ _ rfl⟩
theorem rd1_enc {x : Nt} (hf : x.Fits) (h : x.b.length ≤ 64) (r : List UInt8) : rd1 (enc1 x ++ r, 0) = (x, (r, 0)) := by
  have e1 : enc1 x ++ r = Oct.be 8 x.t ++ (Oct.be 1 x.k ++ (Oct.text x.b ++ r)) := by unfold enc1 Oct.text; simp only [List.append_assoc]
  obtain ⟨t1, t2⟩ := textN x.b r 64 h (by decide)
  unfold rd1
  rw [e1, lOutN _ _ 8 (Oct.length_be _ _), lRawN _ _ _ 8 (Oct.length_be _ _), lOutN _ _ 1 (Oct.length_be _ _), lRawN _ _ _ 1 (Oct.length_be _ _), valN 8 _ hf.1, valN 1 _ hf.2.1]
  rw [show ((64 : Nat) : Int) = 64 from rfl] at t1 t2
  rw [t1, t2]
theorem rds_enc : ∀ (l : List Nt) (r : List UInt8), (∀ x ∈ l, x.Fits) → (∀ x ∈ l, x.b.length ≤ 64) → rds l.length (l.flatMap enc1 ++ r, 0) = (l, (r, 0))
  | [], r, _, _ => by simp [rds]
  | x :: l, r, hf, h => by
    have e : (x :: l).flatMap enc1 ++ r = enc1 x ++ (l.flatMap enc1 ++ r) := by rw [List.flatMap_cons, List.append_assoc]
    have h1 := rd1_enc (hf x (by simp)) (h x (by simp)) (l.flatMap enc1 ++ r)
    have h2 := rds_enc l r (fun y hy => hf y (by simp [hy])) (fun y hy => h y (by simp [hy]))
    show ((rd1 ((x :: l).flatMap enc1 ++ r, 0)).1 :: (rds l.length (rd1 ((x :: l).flatMap enc1 ++ r, 0)).2).1, (rds l.length (rd1 ((x :: l).flatMap enc1 ++ r, 0)).2).2) = _
    rw [e, h1]
    dsimp only
    rw [h2]
theorem read_enc {T : Nat} {l : List Nt} (hT : T < 18446744073709551616) (hl : l.length = min T 32) (hf : ∀ x ∈ l, x.Fits) (h : ∀ x ∈ l, x.b.length ≤ 64) : readA (enc T l, 0) = (T, l) ∧ readE (enc T l, 0) = ([], 0) := by
  have e : enc T l = Oct.be 8 T ++ (Oct.be 1 l.length ++ (l.flatMap enc1 ++ [])) := by unfold enc; simp only [List.append_assoc, List.append_nil]
  have h1 : readT (enc T l, 0) = T := by unfold readT; rw [e, lOutN _ _ 8 (Oct.length_be _ _), valN 8 _ hT]
  have h2 : lRaw (enc T l, 0) 8 = (Oct.be 1 l.length ++ (l.flatMap enc1 ++ []), 0) := by rw [e, lRawN _ _ _ 8 (Oct.length_be _ _)]
  have h3 : readN (enc T l, 0) = l.length := by
    unfold readN
    rw [h2, lOutN _ _ 1 (Oct.length_be _ _), valN 1 _ (by show l.length < 256; omega)]
  have h4 : readS (enc T l, 0) = (l.flatMap enc1 ++ [], 0) := by
    unfold readS
    rw [h1, h3, h2, lRawN _ _ _ 1 (Oct.length_be _ _)]
    unfold mid
    rw [if_neg (by omega), if_neg (by omega)]
  have h5 := rds_enc l [] hf h
  have h6 : readE (enc T l, 0) = ([], 0) := by unfold readE; rw [h3, h4, h5]
  refine ⟨?_, h6⟩
  unfold readA
  rw [h6, if_neg (by simp), h1, h3, h4, h5]
end Nt
end Go.Proofs.Ytabnkbdbbneihaa
