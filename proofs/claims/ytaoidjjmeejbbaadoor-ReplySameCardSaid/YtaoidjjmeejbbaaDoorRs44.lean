/-
  ROWS OF FRAMES; what a Feed makes of bytes that come: walked.
-/
import Derived.Test.YtaoidjjmeejbbaaDoorRs08
import Derived.Test.YtaoidjjmeejbbaaDoorRs43
import Derived.Deep.LoopGhost
import Derived.Deep.AppendLies
section
namespace Go.Proofs.YtaoidjjmeejbbaaDoor
open Go.ChangeShapes Go.WideShapes Go.ChangeAt Go.RowKit
/-! ### frames in memory -/
def frmL (f : Fr.Frame) : List Value := [.int .u8 (f.c.toNat : Int), .int .u8 (f.k.toNat : Int), .string (ofL f.b)]
def fcs (l : List Fr.Frame) : List Value := l.flatMap frmL
theorem fcs_snoc (l : List Fr.Frame) (x : Fr.Frame) : fcs (l ++ [x]) = fcs l ++ frmL x := by unfold fcs; rw [List.flatMap_append]; simp
def frm (l : List Fr.Frame) (i : Nat) : Fr.Frame := l.getD i ⟨0, 0, []⟩
structure FrmC (w : World) (b o : Nat) (f : Fr.Frame) : Prop where
  c0 : w.cell? ⟨b, o, none⟩ = some (.int .u8 (f.c.toNat : Int))
  c1 : w.cell? ⟨b, o + 1, none⟩ = some (.int .u8 (f.k.toNat : Int))
  c2 : w.cell? ⟨b, o + 2, none⟩ = some (.string (ofL f.b))
structure Frms (w : World) (A : Option Addr) (l : List Fr.Frame) : Prop where
  at_ : ∀ i, i < l.length → ∃ b off, A = some ⟨b, off, none⟩ ∧ b < w.heap.size ∧ FrmC w b (off + i * 3) (frm l i)
theorem FrmC.below {w w' : World} {B b o : Nat} {f : Fr.Frame} (h : FrmC w b o f) (hb : Below B w w') (hB : b < B) : FrmC w' b o f :=
  ⟨(hb.cell (p := ⟨b, o, none⟩) hB).trans h.c0, (hb.cell (p := ⟨b, o + 1, none⟩) hB).trans h.c1, (hb.cell (p := ⟨b, o + 2, none⟩) hB).trans h.c2⟩
theorem Frms.on {w w' : World} {A : Option Addr} {l : List Fr.Frame} (h : Frms w A l) (hb : Below w.heap.size w w') : Frms w' A l := ⟨fun i hi => by
  obtain ⟨b, off, hA, hlt, hat⟩ := h.at_ i hi
  exact ⟨b, off, hA, Nat.lt_of_lt_of_le hlt hb.size, hat.below hb hlt⟩⟩
theorem Frms.nil (w : World) (A : Option Addr) : Frms w A [] := ⟨fun i hi => absurd hi (by simp)⟩
theorem rown_frms {w : World} {B E : Nat} {v : Value} {l : List Fr.Frame} (h : w.ownsRow B E 3 v l.length (fcs l)) :
    ∃ A c, v = .slice A l.length c ∧ l.length ≤ c ∧ (A = none → c = 0) ∧ Frms w A l := by
  obtain ⟨A, c, rfl, hc, hb, hx⟩ := Rw.own_cells h
  refine ⟨A, c, rfl, hc, ?_, ⟨fun i hi => ?_⟩⟩
  · rintro rfl
    rcases h.2 with ⟨e, _⟩ | ⟨g, cap, cur, e, _⟩
    · exact (Value.slice.inj e).2.2
    · exact absurd (Value.slice.inj e).1 (by simp)
  · obtain ⟨g, rfl, hg, hcell⟩ := hx (by omega)
    have e : frm l i = l[i] := by unfold frm; rw [List.getD_eq_getElem?_getD, List.getElem?_eq_getElem hi]; rfl
    have at_ : ∀ t, t < 3 → w.cell? ⟨g, i * 3 + t, none⟩ = (frmL l[i])[t]? := fun t ht => by
      rw [hcell _ (by omega)]
      exact Rw.flat_get frmL 3 (fun _ => rfl) (by omega) l i t hi ht
    refine ⟨g, 0, rfl, hg, ?_⟩
    rw [e, Nat.zero_add]
    exact ⟨at_ 0 (by omega), at_ 1 (by omega), at_ 2 (by omega)⟩
theorem infoF : (Tryd.prog.info? 46).map (fun i => (i.zero, i.size, i.bytes)) = some (some (.agg #[.int .u8 0, .int .u8 0, .string ⟨#[]⟩]), 3, 24) := by kernel_rfl
theorem cell_frm_two (w : World) (o : Obj) (x0 x1 x2 : Value) (t : TypeId) : ∀ j u, [x0, x1, x2][j]? = some u → ((w.alloc o).alloc (.cells #[x0, x1, x2] t)).cell? ((⟨w.heap.size + 1, 0, none⟩ : Addr).add j) = some u := by
  have e : (w.alloc o).heap.size = w.heap.size + 1 := by simp
  have h := World.news_of_block (w := (w.alloc o).alloc (.cells #[x0, x1, x2] t)) (B := w.heap.size + 1) (cs := #[x0, x1, x2]) (t := t) (fr := (0, 0)) (by rw [← e]; exact heap_alloc_new _ _)
  exact h
/-- two cells of a block of one's own -/
structure Duo (b : Nat) (x y : Value) (w : World) : Prop where
  c0 : w.cell? ⟨b, 0, none⟩ = some x
  c1 : w.cell? ⟨b, 1, none⟩ = some y
  fz : ∀ j, w.frozen? ⟨b, j, none⟩ = false
theorem Duo.lt {b : Nat} {x y : Value} {w : World} (h : Duo b x y w) : b < w.heap.size := World.block_lt_of_cell? w _ h.c0
theorem Duo.on {b B : Nat} {x y : Value} {w w' : World} (h : Duo b x y w) (hb : Below B w w') (hB : b < B) : Duo b x y w' :=
  ⟨(hb.cell (p := ⟨b, 0, none⟩) hB).trans h.c0, (hb.cell (p := ⟨b, 1, none⟩) hB).trans h.c1, fun j => (hb.frozen (p := ⟨b, j, none⟩) hB).trans (h.fz j)⟩
theorem Duo.new (w : World) (x y : Value) (t : TypeId) : Duo w.heap.size x y (w.alloc (.cells #[x, y] t)) :=
  ⟨cell_new _ _ _ _ _ rfl, cell_new _ _ _ _ _ rfl, fun _ => free_new _ _ _ _ _ rfl⟩

end Go.Proofs.YtaoidjjmeejbbaaDoor
end
