/-
  ROWS of one's own, whatever their elements: their cells; that nothing else is written.
-/

import Derived.WalkKit
import Derived.ProofKit
import Derived.OpenShut
import Derived.Below
import Derived.Laws.AppendOwn
import Derived.Deep.AppendLies
section
namespace Go.Proofs.YtgponfdcagnhhaaGreatDoor.Rw
open Go.ChangeShapes Go.WideShapes Go.ChangeAt Go.RowKit
theorem gb {W W' : World} (h : Below W.heap.size W W') (row : Option Nat) : W.grownBy W' row := ⟨h.os, h.tape, h.output, h.size, fun k hk _ => h.block k hk⟩
theorem flat_get {α : Type} (f : α → List Value) (c : Nat) (hf : ∀ x, (f x).length = c) (hc : 0 < c) : ∀ (l : List α) (i t : Nat) (h : i < l.length), t < c → (l.flatMap f)[i * c + t]? = (f l[i])[t]?
  | [], i, t, h, _ => by simp at h
  | x :: l, 0, t, h, ht => by
    rw [List.flatMap_cons, List.getElem?_append_left (by rw [hf]; omega)]
    simp
  | x :: l, i + 1, t, h, ht => by
    have ih := flat_get f c hf hc l i t (by simpa using h) ht
    rw [List.flatMap_cons, List.getElem?_append_right (by rw [hf, Nat.succ_mul]; omega), hf]
    rw [show (i + 1) * c + t - c = i * c + t by rw [Nat.succ_mul]; omega, ih]
    rfl
theorem own_cells {w : World} {B e size : Nat} {v : Value} {n : Nat} {xs : List Value} (h : w.ownsRow B e size v n xs) :
    ∃ A c, v = .slice A n c ∧ n ≤ c ∧ (∀ a, A = some a → v.ownBlock = some a.block) ∧ (0 < n → ∃ g, A = some ⟨g, 0, none⟩ ∧ g < w.heap.size ∧ ∀ j, j < n * size → w.cell? ⟨g, j, none⟩ = xs[j]?) := by
  obtain ⟨hl, h1 | ⟨g, cap, cur, rfl, hB, hb, h2⟩⟩ := h
  · obtain ⟨rfl, rfl⟩ := h1
    exact ⟨none, 0, rfl, Nat.le_refl _, (fun a h => by cases h), fun h => absurd h (by omega)⟩
  · refine ⟨_, cap, rfl, h2.1, (fun a h => by cases h; rfl), fun _ => ⟨g, rfl, (Array.getElem?_eq_some_iff.1 hb).1, fun j hj => ?_⟩⟩
    exact World.ownsRow.cellAt ⟨hl, Or.inr ⟨g, cap, cur, rfl, hB, hb, h2⟩⟩ j hj
theorem own_on {w w' : World} {B e size : Nat} {v : Value} {n : Nat} {xs : List Value} (h : w.ownsRow B e size v n xs) (hb : Below w.heap.size w w') : w'.ownsRow B e size v n xs :=
  h.kept (gb hb (some w.heap.size)) (.inr fun e => by have := (h.lt _ e).2; omega)
end Go.Proofs.YtgponfdcagnhhaaGreatDoor.Rw
end
