/-
  THE LAST ONES of a row; notes as plain lists.
-/
import Derived.Test.YtfbajmiiecmelaaDoorRt01

section
namespace Go.Proofs.YtfbajmiiecmelaaDoor
/-! ### the last n of a row -/
def lastN {α : Type} (n : Nat) (l : List α) : List α := l.drop (l.length - n)
theorem lastN_len {α : Type} (n : Nat) (l : List α) : (lastN n l).length = min l.length n := by unfold lastN; rw [List.length_drop]; omega
theorem lastN_le {α : Type} (n : Nat) (l : List α) : (lastN n l).length ≤ n := by rw [lastN_len]; omega
theorem lastN_snoc {α : Type} {n : Nat} (hn : 0 < n) (l : List α) (x : α) : (lastN n l).drop ((lastN n l).length + 1 - n) ++ [x] = lastN n (l ++ [x]) := by
  rw [lastN_len]
  unfold lastN
  rw [List.drop_drop, List.length_append]
  by_cases h : l.length < n
  · rw [show l.length - n + (min l.length n + 1 - n) = 0 by omega, show l.length + [x].length - n = 0 by simp; omega]
    simp
  · rw [show l.length - n + (min l.length n + 1 - n) = l.length + 1 - n by omega, show l.length + [x].length - n = l.length + 1 - n by simp]
    rw [List.drop_append_of_le_length (by omega)]
/-! ### notes -/
structure Nt where
  t : Nat
  k : Nat
  b : List UInt8
namespace Nt
def zero : Nt := ⟨0, 0, []⟩
def Fits (x : Nt) : Prop := x.t < 18446744073709551616 ∧ x.k < 256 ∧ x.b.length ≤ 9223372036854775807
/-- one more: how many came, what is kept, what is answered -/
def addT (T : Nat) (x : Nt) : Nat := if 64 < x.b.length then T else if T = 18446744073709551615 then T else T + 1
def addK (T : Nat) (l : List Nt) (x : Nt) : List Nt := if 64 < x.b.length then l else if T = 18446744073709551615 then l else l.drop (l.length + 1 - 32) ++ [x]
def addC (T : Nat) (x : Nt) : Nat := if 64 < x.b.length then 5 else if T = 18446744073709551615 then 18 else 0
/-- is there one of that number? -/
def has (T n k : Nat) : Bool := decide (T - n < k) && decide (k ≤ T)
/-- those that may be -/
def good (l : List Nt) : List Nt := l.filter fun x => decide (x.b.length ≤ 64)
theorem good_snoc (l : List Nt) (x : Nt) : good (l ++ [x]) = if 64 < x.b.length then good l else good l ++ [x] := by
  unfold good
  rw [List.filter_append]
  by_cases h : 64 < x.b.length
  · rw [if_pos h, List.filter_cons_of_neg (by simpa using h)]; simp
  · rw [if_neg h, List.filter_cons_of_pos (by simp; omega)]; simp
theorem good_le (l : List Nt) : (good l).length ≤ l.length := List.length_filter_le _ _
/-- notes behind a row of them: how many, and the last 32 -/
theorem add_good (l : List Nt) (x : Nt) (hl : l.length < 18446744073709551615) :
    addT (good l).length x = (good (l ++ [x])).length ∧ addK (good l).length (lastN 32 (good l)) x = lastN 32 (good (l ++ [x])) ∧ (addC (good l).length x = if 64 < x.b.length then 5 else 0) := by
  have hg := good_le l
  have hne : ¬ (good l).length = 18446744073709551615 := by omega
  rw [good_snoc]
  unfold addT addK addC
  by_cases h : 64 < x.b.length
  · simp only [if_pos h]; exact ⟨trivial, trivial, trivial⟩
  · simp only [if_neg h, if_neg hne]
    exact ⟨by simp, lastN_snoc (by decide) _ _, trivial⟩
end Nt
end Go.Proofs.YtfbajmiiecmelaaDoor
end
