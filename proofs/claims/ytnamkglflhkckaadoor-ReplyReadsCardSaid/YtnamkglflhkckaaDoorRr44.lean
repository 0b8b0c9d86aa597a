/-
  THE FRAME THAT BYTES BEGIN WITH: the program's Parse, walked.
-/
import Derived.Test.YtnamkglflhkckaaDoorRr43

section
namespace Go.Proofs.YtnamkglflhkckaaDoor
open Go.ChangeShapes Go.WideShapes Go.ChangeAt Go.RowKit
/-! ### what is read, in lists -/
def rS1 (l : List UInt8) : LSt := lRaw (l, 0) 1
def rS2 (l : List UInt8) : LSt := lRaw (rS1 l) 1
def rS3 (l : List UInt8) : LSt := lText (rS2 l) 2048
def rS4 (l : List UInt8) : LSt := lRaw (rS3 l) 4
def rS5 (l : List UInt8) : LSt := lRaw (rS4 l) 1
theorem ok1 (l : List UInt8) : lOk (rS1 l) := lOk_raw (lOk_new l) 1
theorem ok2 (l : List UInt8) : lOk (rS2 l) := lOk_raw (ok1 l) 1
theorem ok3 (l : List UInt8) : lOk (rS3 l) := lOk_text (ok2 l) 2048
theorem ok4 (l : List UInt8) : lOk (rS4 l) := lOk_raw (ok3 l) 4
theorem rS_err3 {l : List UInt8} {e : Int} (h : (rS3 l).2 = e) (he : e ≠ 0) : (rS5 l).2 = e := by
  have h4 : rS4 l = rS3 l := lRaw_err (ok3 l) (by rw [h]; exact he) 4
  unfold rS5
  rw [h4, lRaw_err (ok3 l) (by rw [h]; exact he) 1, h]
theorem rS_err2 {l : List UInt8} {e : Int} (h : (rS2 l).2 = e) (he : e ≠ 0) : (rS5 l).2 = e := by
  refine rS_err3 ?_ he
  unfold rS3
  rw [lText_err (ok2 l) (by rw [h]; exact he), h]
theorem rS_small {l : List UInt8} (h : l.length < 4) : (rS5 l).2 = 3 := by
  match l, h with
  | [], _ => exact rS_err2 (by decide) (by decide)
  | [a], _ => exact rS_err2 (by simp [rS2, rS1, lRaw]) (by decide)
  | [a, b], _ =>
    refine rS_err3 ?_ (by decide)
    have h2 : rS2 [a, b] = ([], 0) := by simp [rS2, rS1, lRaw]
    unfold rS3
    rw [h2]
    decide
  | [a, b, c], _ =>
    refine rS_err3 ?_ (by decide)
    have h2 : rS2 [a, b, c] = ([c], 0) := by simp [rS2, rS1, lRaw]
    have hl : lLen ([c], 0) = 0 := by simp [lLen, lOut, Oct.val]
    have hm : lMid ([c], 0) 2048 = ([], 3) := by unfold lMid; rw [hl, if_neg (by decide)]; simp [lRaw]
    unfold rS3 lText
    rw [h2, hm, hl]
    simp [lRaw]
theorem val2 (c d : UInt8) : Oct.val [c, d] = c.toNat * 256 + d.toNat := by simp [Oct.val]
theorem rS2_of {a b c d : UInt8} {r : List UInt8} : rS2 (a :: b :: c :: d :: r) = (c :: d :: r, 0) := by
  simp [rS2, rS1, lRaw]
theorem lLen_of {c d : UInt8} {r : List UInt8} {e : Int} : lLen (c :: d :: r, e) = c.toNat * 256 + d.toNat := by
  unfold lLen
  rw [lOut_of (by simp)]
  exact val2 c d
theorem rS3_long {a b c d : UInt8} {r : List UInt8} (h : 2048 < Fr.len (a :: b :: c :: d :: r)) : (rS5 (a :: b :: c :: d :: r)).2 = 5 := by
  have hn : c.toNat * 256 + d.toNat = Fr.len (a :: b :: c :: d :: r) := rfl
  refine rS_err3 ?_ (by decide)
  have hm : lMid (c :: d :: r, 0) 2048 = ([], 5) := by
    unfold lMid
    rw [lLen_of, if_pos (by omega), lRaw_of (by simp)]
    simp [lFail]
  unfold rS3 lText
  rw [rS2_of, hm, lRaw_err (fun _ => rfl) (by decide)]
theorem rS3_of {a b c d : UInt8} {r : List UInt8} (h : Fr.len (a :: b :: c :: d :: r) ≤ 2048) : rS3 (a :: b :: c :: d :: r) = lRaw (r, 0) (Fr.len (a :: b :: c :: d :: r)) ∧ lTextOut (rS2 (a :: b :: c :: d :: r)) 2048 = lOut r (Fr.len (a :: b :: c :: d :: r)) := by
  have hn : c.toNat * 256 + d.toNat = Fr.len (a :: b :: c :: d :: r) := rfl
  have hm : lMid (c :: d :: r, 0) 2048 = (r, 0) := by
    unfold lMid
    rw [lLen_of, if_neg (by omega), lRaw_of (by simp)]
    rfl
  unfold rS3 lText lTextOut
  rw [rS2_of, hm, lLen_of, hn]
  exact ⟨rfl, rfl⟩
theorem four_of {l : List UInt8} (h : ¬ l.length < 4) : ∃ a b c d r, l = a :: b :: c :: d :: r := by
  match l with
  | [] => exact absurd (by decide) h
  | [_] => exact absurd (by simp) h
  | [_, _] => exact absurd (by simp) h
  | [_, _, _] => exact absurd (by simp) h
  | a :: b :: c :: d :: r => exact ⟨a, b, c, d, r, rfl⟩
theorem rS_err {l : List UInt8} (h : Fr.code l = 3 ∨ Fr.code l = 5) : (rS5 l).2 = (Fr.code l : Int) := by
  by_cases h4 : l.length < 4
  · have hc : Fr.code l = 3 := by unfold Fr.code; rw [if_pos h4]
    rw [rS_small h4, hc]; rfl
  · obtain ⟨a, b, c, d, r, rfl⟩ := four_of h4
    · by_cases h5 : 2048 < Fr.len (a :: b :: c :: d :: r)
      · have hc : Fr.code (a :: b :: c :: d :: r) = 5 := by unfold Fr.code; rw [if_neg h4, if_pos h5]
        rw [rS3_long h5, hc]; rfl
      · have h9 : (a :: b :: c :: d :: r).length < Fr.len (a :: b :: c :: d :: r) + 9 := by
          rcases Nat.lt_or_ge (a :: b :: c :: d :: r).length (Fr.len (a :: b :: c :: d :: r) + 9) with hlt | hge
          · exact hlt
          · exfalso
            unfold Fr.code at h
            rw [if_neg h4, if_neg h5, if_neg (by omega)] at h
            split at h
            · omega
            · split at h <;> omega
        have hc : Fr.code (a :: b :: c :: d :: r) = 3 := by unfold Fr.code; rw [if_neg h4, if_neg h5, if_pos h9]
        have hs := (rS3_of (a := a) (b := b) (c := c) (d := d) (r := r) (by omega)).1
        rw [hc]
        simp only [List.length_cons] at h9
        generalize Fr.len (a :: b :: c :: d :: r) = n at *
        by_cases hr : r.length < n
        · exact rS_err3 (by rw [hs, lRaw_short hr]; rfl) (by decide)
        · rw [lRaw_of (by omega)] at hs
          unfold rS5 rS4
          rw [hs]
          by_cases hr4 : (r.drop n).length < 4
          · rw [lRaw_short hr4, lRaw_err (fun _ => rfl) (by decide)]; rfl
          · rw [lRaw_of (r := r.drop n) (n := 4) (by omega), lRaw_short (by simp only [List.length_drop] at hr4 ⊢; omega)]; rfl
theorem val1 (x : UInt8) : Oct.val [x] = x.toNat := by simp [Oct.val]
/-- what is read of bytes that begin with what may be a frame -/
structure RdOk (l : List UInt8) : Prop where
  lo : Fr.len l + 9 ≤ l.length
  hi : Fr.len l ≤ 2048
  e5 : (rS5 l).2 = 0
  v1 : Oct.val (lOut l 1) = (l.getD 0 0).toNat
  v2 : Oct.val (lOut (rS1 l).1 1) = (l.getD 1 0).toNat
  bd : lTextOut (rS2 l) 2048 = Fr.body l
  l3 : (rS3 l).1.length = l.length - (Fr.len l + 4)
  sm : Oct.val (lOut (rS3 l).1 4) = Oct.val ((l.drop (Fr.len l + 4)).take 4)
  en : Oct.val (lOut (rS4 l).1 1) = (l.getD (Fr.len l + 8) 0).toNat
  l5 : (rS5 l).1.length = l.length - (Fr.len l + 9)
theorem rS_ok {l : List UInt8} (h3 : Fr.code l ≠ 3) (h5 : Fr.code l ≠ 5) : RdOk l := by
  have hl4 : ¬ l.length < 4 := fun h => h3 (by unfold Fr.code; rw [if_pos h])
  have hn5 : ¬ 2048 < Fr.len l := fun h => h5 (by unfold Fr.code; rw [if_neg hl4, if_pos h])
  have hn9 : ¬ l.length < Fr.len l + 9 := fun h => h3 (by unfold Fr.code; rw [if_neg hl4, if_neg hn5, if_pos h])
  obtain ⟨a, b, c, d, r, rfl⟩ := four_of hl4
  · obtain ⟨hs, hb⟩ := rS3_of (a := a) (b := b) (c := c) (d := d) (r := r) (by omega)
    have hbody : Fr.body (a :: b :: c :: d :: r) = r.take (Fr.len (a :: b :: c :: d :: r)) := rfl
    have hdrop : ∀ n, (a :: b :: c :: d :: r).drop (n + 4) = r.drop n := fun n => rfl
    have hget : ∀ n, (a :: b :: c :: d :: r).getD (n + 4 + 4) 0 = r.getD (n + 4) 0 := fun n => rfl
    simp only [List.length_cons] at hn9
    generalize hN : Fr.len (a :: b :: c :: d :: r) = n at *
    rw [lRaw_of (by omega)] at hs
    have hs4 : rS4 (a :: b :: c :: d :: r) = (r.drop (n + 4), 0) := by
      unfold rS4
      rw [hs, lRaw_of (by rw [List.length_drop]; omega), List.drop_drop]
    have hs5 : rS5 (a :: b :: c :: d :: r) = (r.drop (n + 5), 0) := by
      unfold rS5
      rw [hs4, lRaw_of (by rw [List.length_drop]; omega), List.drop_drop]
    refine ⟨by rw [hN]; simp only [List.length_cons]; omega, by rw [hN]; omega, by rw [hs5], ?_, ?_, ?_, ?_, ?_, ?_, ?_⟩
    · rw [lOut_of (by simp)]; exact val1 a
    · have : rS1 (a :: b :: c :: d :: r) = (b :: c :: d :: r, 0) := by simp [rS1, lRaw]
      rw [this, lOut_of (by simp)]; exact val1 b
    · rw [hb, hbody, lOut_of (by omega)]
    · rw [hs, hN]; simp only [List.length_drop, List.length_cons]; omega
    · rw [hs, hN, hdrop, lOut_of (by rw [List.length_drop]; omega)]
    · rw [hs4, hN, show n + 8 = n + 4 + 4 from rfl, hget, lOut_of (by rw [List.length_drop]; omega), List.take_one]
      have : (r.drop (n + 4)).head? = some (r.getD (n + 4) 0) := by
        rw [List.head?_drop, List.getD_eq_getElem?_getD, List.getElem?_eq_getElem (by omega)]; rfl
      rw [this]
      exact val1 _
    · rw [hs5, hN]; simp only [List.length_drop, List.length_cons]; omega
end Go.Proofs.YtnamkglflhkckaaDoor
end
