/-
  WHAT ROWS AND TEXTS ARE ASKED ALIKE: the first for which something holds; texts held against each other; a region whose order is drawn.
-/
import Derived.Test.YtabnkbdbbneihaaOfL
import Derived.WalkKit
import Derived.ProofKit
import Derived.Deep.RegionWith
import Derived.StillTailTactics
namespace Go.Proofs.Ytabnkbdbbneihaa
open Go.ChangeShapes Go.WideShapes Go.ChangeAt Go.RowKit

theorem str_list (x : List UInt8) : (ofL x).toList = x := by rw [ByteArray.toList_eq]; rfl
theorem str_same (x y : List UInt8) : ((ofL x).toList == (ofL y).toList) = (x == y) := by rw [str_list, str_list]
theorem cast_beq (a b : Nat) : (((a : Int)) == (b : Int)) = (a == b) := by rw [Bool.eq_iff_iff]; simp only [beq_iff_eq]; omega
/-! ### the first for which something holds -/
def idx {α : Type} (q : α → Bool) (l : List α) : Int := match l.findIdx? q with | some i => (i : Int) | none => -1
theorem idx_none {α : Type} {q : α → Bool} {l : List α} (z : α) (h : ∀ i, i < l.length → q (l.getD i z) = false) : idx q l = -1 := by
  unfold idx
  rw [List.findIdx?_eq_none_iff.2]
  intro x hx
  obtain ⟨i, hi, rfl⟩ := List.getElem_of_mem hx
  have := h i hi
  rwa [List.getD_eq_getElem?_getD, List.getElem?_eq_getElem hi] at this
theorem idx_some {α : Type} {q : α → Bool} {l : List α} (z : α) {k : Nat} (hk : k < l.length) (h : ∀ i, i < k → q (l.getD i z) = false) (hq : q (l.getD k z) = true) : idx q l = k := by
  unfold idx
  have : l.findIdx? q = some k := by
    rw [List.findIdx?_eq_some_iff_getElem]
    refine ⟨hk, ?_, fun j hj => ?_⟩
    · rwa [List.getD_eq_getElem?_getD, List.getElem?_eq_getElem hk] at hq
    · have := h j hj
      rw [List.getD_eq_getElem?_getD, List.getElem?_eq_getElem (by omega)] at this
      have h2 : q l[j] = false := this
      rw [h2]; simp
  rw [this]
theorem idx_any {α : Type} (q : α → Bool) (l : List α) : decide (idx q l ≥ 0) = l.any q := by
  unfold idx
  cases h : l.findIdx? q with
  | none =>
    have := List.findIdx?_eq_none_iff.1 h
    have h2 : l.any q = false := by rw [List.any_eq_false]; intro x hx; rw [this x hx]; simp
    rw [h2]; simp
  | some i =>
    obtain ⟨hi, hq, _⟩ := List.findIdx?_eq_some_iff_getElem.1 h
    have h2 : l.any q = true := List.any_eq_true.2 ⟨_, List.getElem_mem hi, hq⟩
    rw [h2]; simp
theorem idx_lt {α : Type} (q : α → Bool) (l : List α) : -1 ≤ idx q l ∧ idx q l < l.length := by
  unfold idx
  cases h : l.findIdx? q with
  | none => simp; omega
  | some i =>
    obtain ⟨hi, _⟩ := List.findIdx?_eq_some_iff_getElem.1 h
    simp only; omega
/-- a region whose order is drawn, all of whose operations but the last ones only read -/
theorem region_tail {P : Program} {id : Nat} {Q : Exit → Act → World → Prop} {a : Act} {w : World} {l : List Oper} (n : Nat) (hm : P.follows .mixedOrders = true) (hB : Region.lexTailB .any l.toArray n = true)
    (h : wpStill P l.toArray w.drew (fun a' => wpList P l.toArray Q (l.drop n) a' w.drew) (l.take n) a) : (Code.region id l.toArray true).wp P Q a w := wp_region_still_tail n hm hB h
end Go.Proofs.Ytabnkbdbbneihaa
