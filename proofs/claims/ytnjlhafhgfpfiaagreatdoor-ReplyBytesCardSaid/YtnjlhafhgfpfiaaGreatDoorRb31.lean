/-
  AN APPEND whose run is known, in a region of one order.
-/
import Derived.Test.YtnjlhafhgfpfiaaGreatDoorRb12
import Derived.Test.YtnjlhafhgfpfiaaGreatDoorRb25

section
namespace Go.Proofs.YtnjlhafhgfpfiaaGreatDoor
open Go.ChangeShapes Go.WideShapes Go.ChangeAt Go.RowKit
theorem wpList_append_run {P : Program} {ops : Array Oper} {rest : List Oper} {o : Oper} {a : Act} {w : World} {Q : Exit → Act → World → Prop} (hgd : o.guard = none) (s x : Operand) (t : TypeId)
    (ho : o.op = .call { callee := .builtin .append, args := #[s, x], argTypes := #[t, t] }) (v xv : Value) (hs : a.eval s = v) (hx : a.eval x = xv) {v' : Value} {w' : World}
    (hr : (Builtin.append_ #[t, t] o.type #[v, xv]).run P w = .ok v' w') (h : wpList P ops Q rest (a.put o.dst v') w') : wpList P ops Q (o :: rest) a w := by
  have hw : Region.wanted o (yielded ops a.tmps) = true := by simp [Region.wanted, hgd]
  unfold wpList
  rw [if_pos hw]
  refine Or.inl ?_
  have := step_append_run (ops := ops) (K := wpList P ops Q rest) (Q := Q) (E := True) hgd s x t ho v xv hs hx hr h
  rw [if_pos hw] at this
  exact this
end Go.Proofs.YtnjlhafhgfpfiaaGreatDoor
end
