/-
  ONE REMOVED: walked.
-/
import Derived.Test.YtfbajmiiecmelabDoorLo37

section
namespace Go.Proofs.YtfbajmiiecmelabDoor
open Go.ChangeShapes Go.WideShapes Go.ChangeAt Go.RowKit
theorem BoxC.front {w W : World} {g : Nat} {xs ys : List Value} (h : BoxC w g (xs ++ ys) W) : BoxC w g xs W := ⟨fun j x hj => h.cs j x (by rw [List.getElem?_append_left (List.getElem?_eq_some_iff.1 hj).1]; exact hj), h.s, h.lt, h.ge⟩
theorem MaOk.putAll {x : Ml} {A : Option Addr} {c g : Nat} (hg : x.head ≠ [] → ∀ a, A = some a → g ≠ a.block) : ∀ (vs : List Value) (j : Nat) {w : World}, MaOk w x A c → MaOk (Go.Proofs.YtfbajmiiecmelabDoor.putAll g j vs w) x A c
  | [], _, _, h => h
  | v :: vs, j, _, h => MaOk.putAll hg vs (j + 1) (h.aside hg j v)
theorem ownRow_some {w : World} {B e size n c : Nat} {A : Option Addr} {xs : List Value} (h : w.ownsRow B e size (.slice A n c) n xs) (hn : 0 < n) : ∃ R, A = some ⟨R, 0, none⟩ ∧ B ≤ R ∧ R < w.heap.size ∧ n ≤ c := by
  obtain ⟨A2, c2, e2, hc, hb, hx⟩ := Rw.own_cells h
  obtain ⟨rfl, -, rfl⟩ := Value.slice.inj e2
  obtain ⟨R, rfl, hR, -⟩ := hx hn
  exact ⟨R, rfl, (h.lt R rfl).1, hR, hc⟩
end Go.Proofs.YtfbajmiiecmelabDoor
end
