/-
  STARS, and a hash behind them: plain.
-/
import Derived.Test.YtchfddlfpcgbbaaDoorWordL
namespace Go.Proofs.YtchfddlfpcgbbaaDoor
open Go.ChangeShapes Go.WideShapes Go.ChangeAt Go.RowKit

def stars (n : Nat) : List UInt8 := Wrd.joinW (List.replicate n Wrd.star)
theorem stars_two (n : Nat) : stars (n + 2) = 42 :: 46 :: stars (n + 1) := by
  unfold stars
  rw [List.replicate_succ, List.replicate_succ, Wrd.joinW]; rfl
theorem stars_repeat (n : Nat) : (Lib.repeatL [46, 42] (n + 1)).drop 1 = stars (n + 1) := by
  induction n with
  | zero => rfl
  | succ n ih =>
    rw [stars_two, ← ih]
    simp [Lib.repeatL]
theorem star_no : (46 : UInt8) ∉ Wrd.star := by decide
theorem stars_no (n : Nat) : ∀ w ∈ List.replicate n Wrd.star, (46 : UInt8) ∉ w := by
  intro w hw
  rw [List.eq_of_mem_replicate hw]
  exact star_no
theorem joinW_ne {ws : List (List UInt8)} (h : ∃ w ∈ ws, w ≠ []) : (Wrd.joinW ws).length ≠ 0 := by
  induction ws with
  | nil => obtain ⟨w, hw, _⟩ := h; simp at hw
  | cons x r ih =>
    cases r with
    | nil =>
      obtain ⟨w, hw, hne⟩ := h
      rw [List.mem_singleton] at hw
      subst hw
      rw [Wrd.joinW]
      exact fun e => hne (List.length_eq_zero_iff.1 e)
    | cons v r => rw [Wrd.joinW, List.length_append, List.length_cons]; omega
theorem stars_words (n : Nat) : Wrd.words (stars (n + 1)) = List.replicate (n + 1) Wrd.star := by
  unfold stars
  rw [Wrd.words_ne (joinW_ne ⟨Wrd.star, by simp [List.replicate_succ], by decide⟩), Wrd.cut_join _ (by simp [List.replicate_succ]) (stars_no _)]
theorem joinW_snoc (ws : List (List UInt8)) (h : ws ≠ []) (x : List UInt8) : Wrd.joinW ws ++ 46 :: x = Wrd.joinW (ws ++ [x]) := by
  induction ws with
  | nil => exact absurd rfl h
  | cons w r ih =>
    cases r with
    | nil => rfl
    | cons v r =>
      have := ih (by simp)
      rw [Wrd.joinW, List.append_assoc, List.cons_append, this]; rfl
theorem hashed_words (n : Nat) : Wrd.words (stars (n + 1) ++ [46, 35]) = List.replicate (n + 1) Wrd.star ++ [Wrd.hash] := by
  have e : stars (n + 1) ++ [46, 35] = Wrd.joinW (List.replicate (n + 1) Wrd.star ++ [Wrd.hash]) := joinW_snoc _ (by simp [List.replicate_succ]) [35]
  have hno : ∀ w ∈ List.replicate (n + 1) Wrd.star ++ [Wrd.hash], (46 : UInt8) ∉ w := by
    intro w hw
    rcases List.mem_append.1 hw with hw | hw
    · exact stars_no _ w hw
    · rw [List.mem_singleton] at hw; subst hw; decide
  rw [e, Wrd.words_ne (joinW_ne ⟨Wrd.hash, by simp, by decide⟩), Wrd.cut_join _ (by simp [List.replicate_succ]) hno]
theorem stars_match (n : Nat) (ks : List (List UInt8)) : Wrd.matches' (Wrd.words (stars (n + 1))) ks = decide (ks.length = n + 1) := by
  rw [stars_words]
  unfold Wrd.matches'
  rw [List.reverse_replicate, Wrd.mt_stars, List.length_reverse]
theorem hashed_match (n : Nat) (ks : List (List UInt8)) : Wrd.matches' (Wrd.words (stars (n + 1) ++ [46, 35])) ks = decide (n + 1 ≤ ks.length) := by
  rw [hashed_words]
  unfold Wrd.matches'
  rw [List.reverse_append, List.reverse_replicate]
  show Wrd.mt (Wrd.hash :: List.replicate (n + 1) Wrd.star) _ = _
  rw [Wrd.mt_stars_hash, List.length_reverse]
theorem stars_len (n : Nat) : (stars (n + 1)).length = 2 * n + 1 := by
  induction n with
  | zero => rfl
  | succ n ih => rw [stars_two, List.length_cons, List.length_cons, ih]; omega
end Go.Proofs.YtchfddlfpcgbbaaDoor
