/-
  THE LAW OF A KEY ITSELF, walked: a key matches itself and no other, '#' matches each, with '#' for a word a pattern matches what it did.
-/
import Derived.Test.YtchfddlfpcgbbaaDoorWordJ
namespace Go.Proofs.YtchfddlfpcgbbaaDoor
open Go.ChangeShapes Go.WideShapes Go.ChangeAt Go.RowKit

theorem mark_not {b : UInt8} (h : Wrd.mark b = true) : b ≠ 35 ∧ b ≠ 42 ∧ b ≠ 46 := by
  refine ⟨?_, ?_, ?_⟩ <;> (intro e; subst e; revert h; decide)
theorem plain_mem {x : List UInt8} (h : Wrd.plain x = true) : x ≠ [] ∧ ∀ b ∈ x, Wrd.mark b = true := by
  unfold Wrd.plain at h
  rw [Bool.and_eq_true, List.all_eq_true] at h
  refine ⟨?_, h.1⟩
  intro e
  rw [e] at h
  simp at h
theorem plain_not {x : List UInt8} (h : Wrd.plain x = true) : x ≠ Wrd.hash ∧ x ≠ Wrd.star ∧ (46 : UInt8) ∉ x := by
  obtain ⟨_, h2⟩ := plain_mem h
  refine ⟨fun e => ?_, fun e => ?_, fun hm => (mark_not (h2 _ hm)).2.2 rfl⟩
  · exact (mark_not (h2 35 (by rw [e]; simp [Wrd.hash]))).1 rfl
  · exact (mark_not (h2 42 (by rw [e]; simp [Wrd.star]))).2.1 rfl
theorem key_words {l : List UInt8} (h : Wrd.keyCode [] l = 0) : ∀ w ∈ Wrd.words l, w ≠ Wrd.hash ∧ w ≠ Wrd.star := by
  intro w hw
  have := key_all h w hw
  unfold Wrd.okWord at this
  simp at this
  exact ⟨(plain_not this).1, (plain_not this).2.1⟩
/-- a key matches itself alone -/
theorem self_same {l m : List UInt8} (h : Wrd.keyCode [] l = 0) : Wrd.matches' (Wrd.words l) (Wrd.words m) = (l == m) := by
  unfold Wrd.matches'
  rw [Wrd.mt_same _ _ (fun w hw => key_words h w (List.mem_reverse.1 hw)), Bool.eq_iff_iff]
  simp only [decide_eq_true_eq, beq_iff_eq, List.reverse_inj]
  exact ⟨fun e => Wrd.words_inj e, fun e => by rw [e]⟩
theorem hash_any (m : List UInt8) : Wrd.matches' (Wrd.words [35]) (Wrd.words m) = true := by
  have : Wrd.words [35] = [Wrd.hash] := by decide
  rw [this]
  exact Wrd.mt_any _
/-- the text with '#' for a word: its words -/
theorem set_words {l : List UInt8} (i : Nat) (hi : i < (Wrd.words l).length) : Wrd.words (Wrd.joinW ((Wrd.words l).set i Wrd.hash)) = (Wrd.words l).set i Wrd.hash := by
  have hl : l.length ≠ 0 := fun h => by rw [Wrd.words_nil h] at hi; simp at hi
  have hne : (Wrd.words l).set i Wrd.hash ≠ [] := fun h => by
    have := congrArg List.length h
    rw [List.length_set] at this
    simp at this
    rw [this] at hi
    simp at hi
  have hno : ∀ w ∈ (Wrd.words l).set i Wrd.hash, (46 : UInt8) ∉ w := by
    intro w hw
    rcases List.mem_or_eq_of_mem_set hw with hw | rfl
    · rw [Wrd.words_ne hl] at hw; exact Wrd.cut_no l w hw
    · decide
  have hc := Wrd.cut_join _ hne hno
  have hz : (Wrd.joinW ((Wrd.words l).set i Wrd.hash)).length ≠ 0 := by
    intro h
    rw [List.length_eq_zero_iff.1 h] at hc
    have h1 : (Wrd.words l).set i Wrd.hash = [[]] := by rw [← hc]; rfl
    have h2 : Wrd.hash ∈ (Wrd.words l).set i Wrd.hash := List.mem_set hi _
    rw [h1] at h2
    simp [Wrd.hash] at h2
  rw [Wrd.words_ne hz, hc]
theorem self_set {l m : List UInt8} (i : Nat) (hi : i < (Wrd.words l).length) (h : Wrd.matches' (Wrd.words l) (Wrd.words m) = true) : Wrd.matches' (Wrd.words (Wrd.joinW ((Wrd.words l).set i Wrd.hash))) (Wrd.words m) = true := by
  rw [set_words i hi]
  exact Wrd.matches_set _ i _ hi h
theorem joinW_len (ws : List (List UInt8)) (k : Nat) (h : ∀ w ∈ ws, w.length ≤ k) : (Wrd.joinW ws).length ≤ ws.length * (k + 1) := by
  induction ws with
  | nil => simp [Wrd.joinW]
  | cons w r ih =>
    have h1 := h w (by simp)
    have h2 := ih (fun x hx => h x (by simp [hx]))
    have e : (w :: r).length * (k + 1) = r.length * (k + 1) + (k + 1) := by rw [List.length_cons, Nat.succ_mul]
    rw [e]
    cases r with
    | nil => simp [Wrd.joinW]; omega
    | cons v r => rw [Wrd.joinW, List.length_append, List.length_cons]; omega
theorem join_eq (ws : List (List UInt8)) : Lib.join ws [46] = Wrd.joinW ws := by
  induction ws with
  | nil => rfl
  | cons w r ih =>
    cases r with
    | nil => simp [Wrd.joinW, Lib.join]
    | cons v r => rw [Wrd.joinW, ← ih]; simp [Lib.join, List.intercalate]
end Go.Proofs.YtchfddlfpcgbbaaDoor
