/-
  THE LAW RiseNumbers, walked. A CELL carried on.
-/
import Derived.Test.YtfbajmiiecmelaaDoorRn04
import Derived.Test.YtfbajmiiecmelaaDoorRn28
import Derived.Test.YtfbajmiiecmelaaDoorRn45

section
namespace Go.Proofs.YtfbajmiiecmelaaDoor
open Go.ChangeShapes Go.WideShapes Go.ChangeAt Go.RowKit
/-- of the first k those that may be -/
def rsG (l : List Mp) (k : Nat) : List Ml := Rs.good ((l.take k).map Mp.x)
theorem rsG_le (l : List Mp) (k : Nat) : (rsG l k).length ≤ k := Nat.le_trans (Rs.good_le _) (by rw [List.length_map, List.length_take]; omega)
theorem rs_add {l : List Mp} {k : Nat} (hk : k < l.length) (hL : l.length ≤ 160) : Rs.addT (rsG l k).length (l.getD k Mp.zero).x = (rsG l (k + 1)).length ∧ Rs.addK (rsG l k).length (lastN 16 (rsG l k)) (l.getD k Mp.zero).x = lastN 16 (rsG l (k + 1)) ∧ Rs.addC (rsG l k).length (l.getD k Mp.zero).x = (l.getD k Mp.zero).x.code := by
  have e : l.getD k Mp.zero = l[k] := by rw [List.getD_eq_getElem?_getD, List.getElem?_eq_getElem hk]; rfl
  have h := Rs.add_good ((l.take k).map Mp.x) (l.getD k Mp.zero).x (by rw [List.length_map, List.length_take]; omega)
  rw [show (l.take k).map Mp.x ++ [(l.getD k Mp.zero).x] = (l.take (k + 1)).map Mp.x by rw [e, List.take_succ_eq_append_getElem hk, List.map_append]; rfl] at h
  exact h
def RnSt (w w3 : World) (l : List Mp) (g : Nat) (i : Value) (wr : World) : Prop := ∃ k : Nat, k + g = l.length ∧ i = .int .i64 (k : Int) ∧ RsBox w3 w3.heap.size (rsG l k).length (lastN 16 (rsG l k)) wr ∧ Below w.heap.size w wr
def RmSt (w : World) (n g : Nat) (v : Value) (wr : World) : Prop := ∃ k : Nat, k + g = n ∧ v = .int .u64 (k : Int) ∧ Below w.heap.size w wr
end Go.Proofs.YtfbajmiiecmelaaDoor
end
section
namespace Go.Proofs.YtfbajmiiecmelaaDoor
open Go.ChangeShapes Go.WideShapes Go.ChangeAt Go.RowKit
theorem cell_on {a a' : World} (hb : Below a.heap.size a a') {p : Addr} {v : Value} (h : a.cell? p = some v) : a'.cell? p = some v := (hb.cell (World.block_lt_of_cell? a _ h)).trans h
theorem below_put {B b j : Nat} {w w' : World} {v : Value} (hge : B ≤ b) (h : Below B w w') : Below B w (w'.setCell ⟨b, j, none⟩ v) := h.setCell (p := ⟨b, j, none⟩) hge v
end Go.Proofs.YtfbajmiiecmelaaDoor
end
