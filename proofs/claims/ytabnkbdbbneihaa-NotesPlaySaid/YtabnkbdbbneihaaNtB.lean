/-
  NOTES IN MEMORY; held against each other.
-/
import Derived.Test.YtabnkbdbbneihaaNtC
import Derived.Test.YtabnkbdbbneihaaNtMath
import Derived.Test.YtabnkbdbbneihaaOfL
import Derived.Test.YtabnkbdbbneihaaOct
import Derived.Test.YtabnkbdbbneihaaGen
import Derived.Laws.StructEq
import Derived.Laws.IdiomStrings
namespace Go.Proofs.Ytabnkbdbbneihaa
open Go.ChangeShapes Go.WideShapes Go.ChangeAt Go.RowKit

def ntL (x : Nt) : List Value := [.int .u64 (x.t : Int), .int .u8 (x.k : Int), .string (ofL x.b)]
def ntV (x : Nt) : Value := .agg #[.int .u64 (x.t : Int), .int .u8 (x.k : Int), .string (ofL x.b)]
def ncs (l : List Nt) : List Value := l.flatMap ntL
theorem ncs_len (l : List Nt) : (ncs l).length = l.length * 3 := Rw.flat_len ntL 3 (fun _ => rfl) l
theorem ncs_app (l m : List Nt) : ncs (l ++ m) = ncs l ++ ncs m := by simp [ncs]
theorem ncs_one1 (x : Nt) : ncs [x] = ntL x := by simp [ncs]
theorem ncs_drop (l : List Nt) (i : Nat) : (ncs l).drop (i * 3) = ncs (l.drop i) := flat_cut ntL 3 (fun _ => rfl) l i
theorem ncs_one (l : List Nt) : ∀ u ∈ ncs l, u.oneCell' = true := by
  intro u hu
  obtain ⟨f, _, hf⟩ := List.mem_flatMap.1 hu
  simp only [ntL, List.mem_cons, List.not_mem_nil, or_false] at hf
  rcases hf with rfl | rfl | rfl <;> rfl
theorem ncs_at {l : List Nt} {i j : Nat} (h : i < l.length) (hj : j < 3) : (ncs l)[i * 3 + j]? = (ntL (l.getD i Nt.zero))[j]? := by
  have e := Rw.flat_get ntL 3 (fun _ => rfl) (by decide) l i j h hj
  have e2 : l.getD i Nt.zero = l[i] := by rw [List.getD_eq_getElem?_getD, List.getElem?_eq_getElem h]; rfl
  rw [e2]
  exact e
/-- notes lie there -/
def Nts (w : World) (A : Option Addr) (l : List Nt) : Prop := Rws w A (ncs l)
theorem Nts.nil (w : World) (A : Option Addr) : Nts w A [] := Rws.nil w A
theorem Nts.on {w w' : World} {A : Option Addr} {l : List Nt} (h : Nts w A l) (hb : Below w.heap.size w w') : Nts w' A l := Rws.on h hb
theorem Nts.get {w : World} {A : Option Addr} {l : List Nt} (h : Nts w A l) {i : Nat} (hi : i < l.length) :
    ∃ b off, A = some ⟨b, off, none⟩ ∧ b < w.heap.size ∧ w.cell? ⟨b, off + i * 3, none⟩ = some (.int .u64 ((l.getD i Nt.zero).t : Int)) ∧ w.cell? ⟨b, off + i * 3 + 1, none⟩ = some (.int .u8 ((l.getD i Nt.zero).k : Int)) ∧ w.cell? ⟨b, off + i * 3 + 2, none⟩ = some (.string (ofL (l.getD i Nt.zero).b)) := by
  obtain ⟨b, off, e, hlt, hc⟩ := Rws.lies h (by rw [ncs_len]; omega)
  have h0 := hc _ _ ((ncs_at hi (j := 0) (by decide)).trans rfl)
  have h1 := hc _ _ ((ncs_at hi (j := 1) (by decide)).trans rfl)
  have h2 := hc _ _ ((ncs_at hi (j := 2) (by decide)).trans rfl)
  rw [Nat.add_zero] at h0
  rw [← Nat.add_assoc] at h1 h2
  exact ⟨b, off, e, hlt, h0, h1, h2⟩
/-- two cells of a box of one's own -/
structure Du2 (b : Nat) (x y : Value) (w : World) : Prop where
  c0 : w.cell? ⟨b, 0, none⟩ = some x
  c1 : w.cell? ⟨b, 1, none⟩ = some y
  fz : ∀ j, w.frozen? ⟨b, j, none⟩ = false
theorem Du2.lt {b : Nat} {x y : Value} {w : World} (h : Du2 b x y w) : b < w.heap.size := World.block_lt_of_cell? w _ h.c0
theorem Du2.far {b B : Nat} {x y : Value} {w w' : World} (h : Du2 b x y w) (hb : Below B w w') (hB : b < B) : Du2 b x y w' :=
  ⟨(hb.cell (p := ⟨b, 0, none⟩) hB).trans h.c0, (hb.cell (p := ⟨b, 1, none⟩) hB).trans h.c1, fun j => (hb.frozen (p := ⟨b, j, none⟩) hB).trans (h.fz j)⟩
theorem Du2.on {b : Nat} {x y : Value} {w w' : World} (h : Du2 b x y w) (hb : Below w.heap.size w w') : Du2 b x y w' := h.far hb h.lt
theorem Du2.new (w : World) (x y : Value) (t : TypeId) : Du2 w.heap.size x y (w.alloc (.cells #[x, y] t)) :=
  ⟨cell_new _ _ _ _ _ rfl, cell_new _ _ _ _ _ rfl, fun _ => free_new _ _ _ _ _ rfl⟩
theorem Du2.set {b : Nat} {x y : Value} {w : World} (h : Du2 b x y w) (u v : Value) : Du2 b u v ((w.setCell ⟨b, 0, none⟩ u).setCell ⟨b, 1, none⟩ v) :=
  ⟨(World.cell?_setCell_other _ _ _ _ (by simp)).trans (World.cell?_setCell_same _ _ _ h.c0), World.cell?_setCell_same _ _ _ ((World.cell?_setCell_other _ _ _ _ (by simp)).trans h.c1), fun j => by rw [World.frozen?_setCell, World.frozen?_setCell]; exact h.fz j⟩
theorem Rws.put {w : World} {A : Option Addr} {cs : List Value} {b : Nat} (h : Rws w A cs) (hne : ∀ a, A = some a → a.block ≠ b) (j : Nat) (v : Value) : Rws (w.setCell ⟨b, j, none⟩ v) A cs := ⟨fun i u hu => by
  obtain ⟨g, off, rfl, hlt, hc⟩ := h.at_ i u hu
  have hg : g ≠ b := hne _ rfl
  exact ⟨g, off, rfl, by simpa using hlt, (World.cell?_setCell_other _ _ _ _ (by intro e; simp only [Addr.mk.injEq] at e; omega)).trans hc⟩⟩
theorem Rws.put2 {w : World} {A : Option Addr} {cs : List Value} {b : Nat} (h : Rws w A cs) (hne : ∀ a, A = some a → a.block ≠ b) (u v : Value) : Rws ((w.setCell ⟨b, 0, none⟩ u).setCell ⟨b, 1, none⟩ v) A cs := (h.put hne 0 u).put hne 1 v
theorem Nts.put2 {w : World} {A : Option Addr} {l : List Nt} {b : Nat} (h : Nts w A l) (hne : ∀ a, A = some a → a.block ≠ b) (u v : Value) : Nts ((w.setCell ⟨b, 0, none⟩ u).setCell ⟨b, 1, none⟩ v) A l := Rws.put2 h hne u v
/-- Notes as they are kept: how many came, and what is kept -/
def ntsV (T : Nat) (A : Option Addr) (n c : Nat) : Value := .agg #[.int .u64 (T : Int), .slice A n c]
structure NtsIn (w : World) (v : Value) (T : Nat) (l : List Nt) : Prop where
  at_ : ∃ A c, v = .agg #[.int .u64 (T : Int), .slice A l.length c] ∧ l.length ≤ c ∧ (A = none → c = 0) ∧ Nts w A l
theorem NtsIn.on {w w' : World} {v : Value} {T : Nat} {l : List Nt} (h : NtsIn w v T l) (hb : Below w.heap.size w w') : NtsIn w' v T l := by
  obtain ⟨A, c, h1, h2, h3, h4⟩ := h.at_
  exact ⟨A, c, h1, h2, h3, h4.on hb⟩

/-! ### two notes -/
theorem guardNt : Try.prog.eqGuardType Try.prog.depth 32 = false := by kernel_rfl
theorem stoodNt : Try.prog.stoodInHeld 32 = false := by kernel_rfl
theorem fieldsNt : Try.prog.fieldsOf 32 = #[⟨"Tick", 23, 0, false, "", "", 0⟩, ⟨"Kind", 5, 1, false, "", "", 8⟩, ⟨"Text", 9, 2, false, "", "", 16⟩] := by kernel_rfl
def ntEq (x y : Nt) : Bool := (x.t == y.t) && (x.k == y.k) && (x.b == y.b)
theorem ntEq_iff (x y : Nt) : ntEq x y = true ↔ x = y := by
  obtain ⟨a, b, c⟩ := x
  obtain ⟨a', b', c'⟩ := y
  simp [ntEq, and_assoc]
theorem ntEq_self (x : Nt) : ntEq x x = true := (ntEq_iff x x).2 rfl
theorem nt_eql (a b : Int) (s : ByteArray) (c d : Int) (t : ByteArray) (W : World) : (Op.equalIn 10000 32 (.agg #[.int .u64 a, .int .u8 b, .string s]) (.agg #[.int .u64 c, .int .u8 d, .string t])).run Try.prog W = .ok ((a == c) && (b == d) && (s.toList == t.toList)) W := by
  rw [run_equalIn_agg (ht := by kernel_rfl) (hp := stoodNt), fieldsNt]
  simp [Op.eqFields, go_sem, Try.underlying23, Try.underlying5, Try.underlying9]
  by_cases h1 : a = c <;> by_cases h2 : b = d <;> by_cases h3 : s.toList = t.toList <;> simp [h1, h2, h3]
theorem nt_bool (x y : Nt) : (((x.t : Int) == (y.t : Int)) && ((x.k : Int) == (y.k : Int)) && ((ofL x.b).toList == (ofL y.b).toList)) = ntEq x y := by
  rw [str_same, cast_beq, cast_beq]; rfl
theorem nt_eq (x y : Nt) (W : World) : (Op.equalIn 10000 32 (.agg #[.int .u64 (x.t : Int), .int .u8 (x.k : Int), .string (ofL x.b)]) (.agg #[.int .u64 (y.t : Int), .int .u8 (y.k : Int), .string (ofL y.b)])).run Try.prog W = .ok (ntEq x y) W := by
  rw [← nt_bool]
  exact nt_eql _ _ _ _ _ _ W
end Go.Proofs.Ytabnkbdbbneihaa
