/-
  A PAIR WRITTEN: walked.
-/
import Derived.Test.YtgponfdcagnhhaaGreatDoorDl06
import Derived.Test.YtgponfdcagnhhaaGreatDoorDl18
import Derived.Deep.RegionHeld3
import Derived.Deep.DeepCutAuto
section
namespace Go.Proofs.YtgponfdcagnhhaaGreatDoor
open Go.ChangeShapes Go.WideShapes Go.ChangeAt Go.RowKit
/-- the three boxes of head.write: what is written so far, the pair, the answer -/
structure WrC (w : World) (a b c : Nat) (k : List UInt8) (kd : Nat) (n : Int) (t : List UInt8) (W : World) : Prop where
  o : ∃ (s : ByteArray) (e : Int), W.cell? ⟨a, 0, none⟩ = some (.string s) ∧ W.cell? ⟨a, 1, none⟩ = some (.int .i64 e)
  so : ∀ j, W.frozen? ⟨a, j, none⟩ = false
  p : PrAt W b 0 ⟨k, kd, n, t⟩
  r0 : W.cell? ⟨c, 0, none⟩ = some (.string ⟨#[]⟩)
  r1 : W.cell? ⟨c, 1, none⟩ = some (.int .i64 0)
  sr : ∀ j, W.frozen? ⟨c, j, none⟩ = false
  la : a < W.heap.size
  lb : b < W.heap.size
  lc : c < W.heap.size
  ab : a ≠ b
  ac : a ≠ c
  bc : b ≠ c
  ge : w.heap.size ≤ a
  gc : w.heap.size ≤ c
  B : Below w.heap.size w W
theorem WrC.on {w : World} {a b c : Nat} {k : List UInt8} {kd : Nat} {n : Int} {t : List UInt8} {W W' : World} (h : WrC w a b c k kd n t W) (hb : Below W.heap.size W W') : WrC w a b c k kd n t W' := by
  obtain ⟨s, e, h0, h1⟩ := h.o
  exact ⟨⟨s, e, (hb.cell (p := ⟨a, 0, none⟩) h.la).trans h0, (hb.cell (p := ⟨a, 1, none⟩) h.la).trans h1⟩, fun j => (hb.frozen (p := ⟨a, j, none⟩) h.la).trans (h.so j), h.p.below hb h.lb,
    (hb.cell (p := ⟨c, 0, none⟩) h.lc).trans h.r0, (hb.cell (p := ⟨c, 1, none⟩) h.lc).trans h.r1, fun j => (hb.frozen (p := ⟨c, j, none⟩) h.lc).trans (h.sr j),
    Nat.lt_of_lt_of_le h.la hb.size, Nat.lt_of_lt_of_le h.lb hb.size, Nat.lt_of_lt_of_le h.lc hb.size, h.ab, h.ac, h.bc, h.ge, h.gc, bthen h.B hb (Nat.le_refl _)⟩
abbrev WrS (w : World) (a b c : Nat) (k : List UInt8) (kd : Nat) (n : Int) (t : List UInt8) (W : World) : Prop :=
  (W.cell? ⟨b, 0, none⟩ = some (.string (ofL k)) ∧ W.cell? ⟨b, 1, none⟩ = some (.int .u8 (kd : Int)) ∧ b < W.heap.size) ∧ WrC w a b c k kd n t W
theorem WrC.s {w : World} {a b c : Nat} {k : List UInt8} {kd : Nat} {n : Int} {t : List UInt8} {W : World} (h : WrC w a b c k kd n t W) : WrS w a b c k kd n t W := ⟨⟨h.p.c0, h.p.c1, h.lb⟩, h⟩
theorem WrS.on {w : World} {a b c : Nat} {k : List UInt8} {kd : Nat} {n : Int} {t : List UInt8} {W W' : World} (h : WrS w a b c k kd n t W) (hb : Below W.heap.size W W') : WrS w a b c k kd n t W' := (h.2.on hb).s
/-- the answer is laid into its box -/
theorem WrC.last {w : World} {a b c : Nat} {k : List UInt8} {kd : Nat} {n : Int} {t : List UInt8} {W : World} (h : WrC w a b c k kd n t W) (s : ByteArray) :
    ((W.setCell ⟨c, 0, none⟩ (.string s)).setCell ⟨c, 1, none⟩ (.int .i64 0)).cell? ⟨c, 0, none⟩ = some (.string s) ∧ ((W.setCell ⟨c, 0, none⟩ (.string s)).setCell ⟨c, 1, none⟩ (.int .i64 0)).cell? ⟨c, 1, none⟩ = some (.int .i64 0) ∧ Below w.heap.size w ((W.setCell ⟨c, 0, none⟩ (.string s)).setCell ⟨c, 1, none⟩ (.int .i64 0)) := by
  have hC : Cels W c [.string ⟨#[]⟩, .int .i64 0] := fun j v hj => by
    match j, hj with
    | 0, hj => obtain rfl := Option.some.inj hj; exact h.r0
    | 1, hj => obtain rfl := Option.some.inj hj; exact h.r1
  have hD := (hC.put 0 (.string s) (by simp)).put 1 (.int .i64 0) (by simp)
  exact ⟨hD 0 _ rfl, hD 1 _ rfl, (h.B.setCell h.gc _).setCell h.gc _⟩
end Go.Proofs.YtgponfdcagnhhaaGreatDoor
end
