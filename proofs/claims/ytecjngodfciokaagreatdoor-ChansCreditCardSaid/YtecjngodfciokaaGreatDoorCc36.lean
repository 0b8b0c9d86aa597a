/-
  WHOLE STRUCTS in a block of one's own: loaded, stored; deeds among them.
-/
import Derived.Test.YtecjngodfciokaaGreatDoorCc33
import Derived.Deep.MidRow
import Derived.Deep.WholeRow
import Derived.Lib.BufferRead
section
namespace Go.Proofs.YtecjngodfciokaaGreatDoor
open Go.ChangeShapes Go.WideShapes Go.ChangeAt Go.RowKit
theorem setCells_pa (b : Nat) : ∀ (vs : List Value) (o : Nat) (W : World), W.setCells b o vs = putAll b o vs W
  | [], _, _ => rfl
  | v :: vs, o, W => by
    unfold World.setCells putAll
    exact setCells_pa b vs (o + 1) _
theorem Cels.range {W : World} {q : Nat} {xs : List Value} (h : Cels W q xs) : W.rangeAt q 0 xs := fun j v hj => by rw [Nat.zero_add]; exact h j v hj
theorem BoxC.there {w W : World} {c : Nat} {xs : List Value} (h : BoxC w c xs W) : W.there c 0 xs.length := fun j hj => by
  rw [Nat.zero_add]
  exact ⟨by rw [h.cs j xs[j] (List.getElem?_eq_getElem hj)]; rfl, h.s j⟩
theorem BoxC.over {w W : World} {c : Nat} {xs : List Value} (h : BoxC w c xs W) (ys : List Value) (hl : ys.length = xs.length) : BoxC w c ys (W.setCells c 0 ys) := by
  rw [setCells_pa]; exact h.fill ys hl
theorem below_setCells {w : World} {g : Nat} (hg : w.heap.size ≤ g) (vs : List Value) (j : Nat) {W : World} (h : Below w.heap.size w W) : Below w.heap.size w (W.setCells g j vs) := by
  rw [setCells_pa]; exact below_putAll hg vs j h
theorem de_one (x : De) (A : Option Addr) (c : Nat) (B : Option Addr) (d : Nat) : ∀ v ∈ deL x A c B d, v.oneCell' = true := by
  unfold deL
  intro v hv
  simp only [List.mem_cons, List.not_mem_nil, or_false] at hv
  rcases hv with rfl | rfl | rfl | rfl | rfl | rfl | rfl | rfl | rfl | rfl | rfl | rfl | rfl | rfl | rfl | rfl | rfl | rfl | rfl | rfl | rfl | rfl | rfl | rfl | rfl | rfl | rfl | rfl | rfl <;> rfl
theorem de_all (x : De) (A : Option Addr) (c : Nat) (B : Option Addr) (d : Nat) : (deL x A c B d).toArray.all (·.oneCell') = true := all_oneCell_toArray (de_one x A c B d)
theorem deL_len (x : De) (A : Option Addr) (c : Nat) (B : Option Addr) (d : Nat) : (deL x A c B d).length = 29 := rfl
theorem de_size : (Tryz.prog.info? 39).map (·.size) = some 29 := by kernel_rfl
theorem de_res (x : De) (A : Option Addr) (c : Nat) (B : Option Addr) (d : Nat) (W : World) (g : Nat) (h : Cels W g (deL x A c B d)) : (loadVar 39 ⟨g, 0, none⟩).run Tryz.prog W = .ok (deV x A c B d) W :=
  run_loadVar_mid W g 0 39 (deL x A c B d) _ h.range Tryz.underlying39 rfl (by rw [de_size, deL_len])
/-- a whole deed into the box that was made last -/
theorem wpList_store_new2 {P : Program} {ops : Array Oper} {rest : List Oper} {op : Oper} {a : Act} {w : World} {Q : Exit → Act → World → Prop} (hgd : op.guard = none) (ty : TypeId) (x y : Operand) (ho : op.op = .store ty x y)
    (c c' : Array Value) (hx : a.eval x = .pointer (some ⟨w.heap.size, 0, none⟩)) (hy : a.eval y = .agg c') (hi : (P.info? ty).map (·.size) = some c'.size) (hcc : c.size = c'.size) (h1 : c'.all (·.oneCell') = true)
    (h : wpList P ops Q rest (a.put op.dst undef) (w.alloc (.cells c' ty))) : wpList P ops Q (op :: rest) a (w.alloc (.cells c ty)) :=
  wpList_plain hgd fun _ hK => by
    unfold Oper.wp execOp
    simp only [ho, hx, hy, Sem.run_bind, Sem.run_pure, Result.andThen_ok, run_storeAt_new w ty c c' hi hcc h1]
    exact hK _ _ h
end Go.Proofs.YtecjngodfciokaaGreatDoor
end
