/-
  ROWS OF MESSAGES IN MEMORY: each with where its head lies.
-/
import Derived.Test.YtfbajmiiecmelaaDoorRt05
import Derived.Test.YtfbajmiiecmelaaDoorRt10
import Derived.Test.YtfbajmiiecmelaaDoorRt38

section
namespace Go.Proofs.YtfbajmiiecmelaaDoor
open Go.ChangeShapes Go.WideShapes Go.ChangeAt Go.RowKit
/-- a message, and where its head lies -/
structure Mp where
  x : Ml
  A : Option Addr
  c : Nat
namespace Mp
def zero : Mp := ⟨Ml.zero, none, 0⟩
end Mp
def mpL (p : Mp) : List Value := maL p.x p.A p.c
def mcs (l : List Mp) : List Value := l.flatMap mpL
theorem mcs_len (l : List Mp) : (mcs l).length = l.length * 7 := Rw.flat_len mpL 7 (fun _ => rfl) l
theorem mcs_app (l m : List Mp) : mcs (l ++ m) = mcs l ++ mcs m := by simp [mcs]
theorem mcs_one1 (p : Mp) : mcs [p] = mpL p := by simp [mcs]
theorem mcs_drop (l : List Mp) (i : Nat) : (mcs l).drop (i * 7) = mcs (l.drop i) := flat_cut mpL 7 (fun _ => rfl) l i
theorem mcs_one (l : List Mp) : ∀ u ∈ mcs l, u.oneCell' = true := by
  intro u hu
  obtain ⟨f, _, hf⟩ := List.mem_flatMap.1 hu
  simp only [mpL, maL, List.mem_cons, List.not_mem_nil, or_false] at hf
  rcases hf with rfl | rfl | rfl | rfl | rfl | rfl | rfl <;> rfl
theorem mcs_at {l : List Mp} {i j : Nat} (h : i < l.length) (hj : j < 7) : (mcs l)[i * 7 + j]? = (mpL (l.getD i Mp.zero))[j]? := by
  have e := Rw.flat_get mpL 7 (fun _ => rfl) (by decide) l i j h hj
  have e2 : l.getD i Mp.zero = l[i] := by rw [List.getD_eq_getElem?_getD, List.getElem?_eq_getElem h]; rfl
  rw [e2]
  exact e
theorem mp_getD (l : List Mp) (i : Nat) : (l.getD i Mp.zero).x = (l.map Mp.x).getD i Ml.zero := by
  rw [List.getD_eq_getElem?_getD, List.getD_eq_getElem?_getD, List.getElem?_map]
  cases l[i]? <;> rfl
/-- messages lie there, and their heads -/
structure Mas (w : World) (A : Option Addr) (l : List Mp) : Prop where
  row : Rws w A (mcs l)
  hd : ∀ p ∈ l, MaOk w p.x p.A p.c
theorem Mas.nil (w : World) (A : Option Addr) : Mas w A [] := ⟨Rws.nil w A, fun _ h => by simp at h⟩
theorem Mas.on {w w' : World} {A : Option Addr} {l : List Mp} (h : Mas w A l) (hb : Below w.heap.size w w') : Mas w' A l := ⟨Rws.on h.row hb, fun p hp => (h.hd p hp).on hb⟩
theorem Mas.ok {w : World} {A : Option Addr} {l : List Mp} (h : Mas w A l) {i : Nat} (hi : i < l.length) : MaOk w (l.getD i Mp.zero).x (l.getD i Mp.zero).A (l.getD i Mp.zero).c := by
  have e2 : l.getD i Mp.zero = l[i] := by rw [List.getD_eq_getElem?_getD, List.getElem?_eq_getElem hi]; rfl
  rw [e2]
  exact h.hd _ (List.getElem_mem hi)
theorem Mas.get {w : World} {A : Option Addr} {l : List Mp} (h : Mas w A l) {i : Nat} (hi : i < l.length) :
    ∃ b off, A = some ⟨b, off, none⟩ ∧ b < w.heap.size ∧ ∀ j v, (mpL (l.getD i Mp.zero))[j]? = some v → w.cell? ⟨b, off + i * 7 + j, none⟩ = some v := by
  obtain ⟨b, off, e, hlt, hc⟩ := Rws.lies h.row (by rw [mcs_len]; omega)
  refine ⟨b, off, e, hlt, fun j v hv => ?_⟩
  have hj : j < 7 := by
    rcases Nat.lt_or_ge j 7 with h | h
    · exact h
    · rw [List.getElem?_eq_none (by show (mpL _).length ≤ j; exact h)] at hv; cases hv
  have := hc _ _ ((mcs_at hi hj).trans hv)
  rw [← Nat.add_assoc] at this
  exact this
theorem Rws.putR {w : World} {A : Option Addr} {cs : List Value} {b : Nat} (h : Rws w A cs) (hne : ∀ a, A = some a → a.block ≠ b) (j : Nat) (v : Value) : Rws (w.setCell ⟨b, j, none⟩ v) A cs := ⟨fun i u hu => by
  obtain ⟨g, off, rfl, hlt, hc⟩ := h.at_ i u hu
  have hg : g ≠ b := hne _ rfl
  exact ⟨g, off, rfl, by simpa using hlt, (World.cell?_setCell_other _ _ _ _ (by intro e; simp only [Addr.mk.injEq] at e; omega)).trans hc⟩⟩
/-- a rise as it is kept: how many came, and what is kept -/
structure RsIn (w : World) (v : Value) (T : Nat) (l : List Mp) : Prop where
  at_ : ∃ A c, v = .agg #[.int .u64 (T : Int), .slice A l.length c] ∧ l.length ≤ c ∧ (A = none → c = 0) ∧ Mas w A l
theorem RsIn.on {w w' : World} {v : Value} {T : Nat} {l : List Mp} (h : RsIn w v T l) (hb : Below w.heap.size w w') : RsIn w' v T l := by
  obtain ⟨A, c, h1, h2, h3, h4⟩ := h.at_
  exact ⟨A, c, h1, h2, h3, h4.on hb⟩
end Go.Proofs.YtfbajmiiecmelaaDoor
end
