/-
  PLAIN: a list of bytes as a text. No program is spoken of here. ROWS of one's own, whatever their elements: their cells; that nothing else is written. ROWS OF ANY ELEMENTS in memory, by their cells.
-/

import Derived.WalkKit
import Derived.ProofKit
import Derived.OpenShut
import Derived.Below
import Derived.Laws.AppendOwn
import Derived.Deep.AppendLies
import Derived.Deep.LoopGhost
import Derived.Laws.AppendOwnNone
import Derived.ArgAppend
import Derived.Lib.Walk
import Derived.Lib.SliceRun
import Derived.Lib.AppendZerosOnto
section
namespace Go.Proofs.YtecjngodfciokaaGreatDoor
/-- bytes as a text -/
def ofL (l : List UInt8) : ByteArray := ⟨l.toArray⟩
theorem ofL_toList (s : ByteArray) : ofL s.data.toList = s := by
  unfold ofL; rw [Array.toArray_toList]
theorem ofL_size (l : List UInt8) : (ofL l).size = l.length := by
  show l.toArray.size = _; rw [List.size_toArray]
theorem list_extract (s : ByteArray) (i j : Nat) : (s.extract i j).data.toList = (s.data.toList.drop i).take (j - i) := by
  rw [ByteArray.data_extract, Array.toList_extract, List.extract_eq_take_drop]
theorem extract_drop (s : ByteArray) (k : Nat) : s.extract k s.size = ofL (s.data.toList.drop k) := by
  rw [← ofL_toList (s.extract k s.size), list_extract, List.take_of_length_le]
  rw [List.length_drop]; exact Nat.le_refl _
theorem ofL_app (a b : List UInt8) : ofL a ++ ofL b = ofL (a ++ b) := by
  apply ByteArray.ext
  rw [ByteArray.data_append]
  show a.toArray ++ b.toArray = (a ++ b).toArray
  simp
theorem ofL_str (x : List UInt8) : (ofL x).toList = x := by rw [ByteArray.toList_eq]; rfl
end Go.Proofs.YtecjngodfciokaaGreatDoor
end
section
namespace Go.Proofs.YtecjngodfciokaaGreatDoor.Rw
open Go.ChangeShapes Go.WideShapes Go.ChangeAt Go.RowKit
theorem gb {W W' : World} (h : Below W.heap.size W W') (row : Option Nat) : W.grownBy W' row := ⟨h.os, h.tape, h.output, h.size, fun k hk _ => h.block k hk⟩
theorem flat_get {α : Type} (f : α → List Value) (c : Nat) (hf : ∀ x, (f x).length = c) (hc : 0 < c) : ∀ (l : List α) (i t : Nat) (h : i < l.length), t < c → (l.flatMap f)[i * c + t]? = (f l[i])[t]?
  | [], i, t, h, _ => by simp at h
  | x :: l, 0, t, h, ht => by
    rw [List.flatMap_cons, List.getElem?_append_left (by rw [hf]; omega)]
    simp
  | x :: l, i + 1, t, h, ht => by
    have ih := flat_get f c hf hc l i t (by simpa using h) ht
    rw [List.flatMap_cons, List.getElem?_append_right (by rw [hf, Nat.succ_mul]; omega), hf]
    rw [show (i + 1) * c + t - c = i * c + t by rw [Nat.succ_mul]; omega, ih]
    rfl
theorem flat_len {α : Type} (f : α → List Value) (c : Nat) (hf : ∀ x, (f x).length = c) (l : List α) : (l.flatMap f).length = l.length * c := by
  induction l with
  | nil => simp
  | cons x l ih => rw [List.flatMap_cons, List.length_append, hf, ih, List.length_cons, Nat.succ_mul]; omega
theorem own_cells {w : World} {B e size : Nat} {v : Value} {n : Nat} {xs : List Value} (h : w.ownsRow B e size v n xs) :
    ∃ A c, v = .slice A n c ∧ n ≤ c ∧ (∀ a, A = some a → v.ownBlock = some a.block) ∧ (0 < n → ∃ g, A = some ⟨g, 0, none⟩ ∧ g < w.heap.size ∧ ∀ j, j < n * size → w.cell? ⟨g, j, none⟩ = xs[j]?) := by
  obtain ⟨hl, h1 | ⟨g, cap, cur, rfl, hB, hb, h2⟩⟩ := h
  · obtain ⟨rfl, rfl⟩ := h1
    exact ⟨none, 0, rfl, Nat.le_refl _, (fun a h => by cases h), fun h => absurd h (by omega)⟩
  · refine ⟨_, cap, rfl, h2.1, (fun a h => by cases h; rfl), fun _ => ⟨g, rfl, (Array.getElem?_eq_some_iff.1 hb).1, fun j hj => ?_⟩⟩
    exact World.ownsRow.cellAt ⟨hl, Or.inr ⟨g, cap, cur, rfl, hB, hb, h2⟩⟩ j hj
theorem own_ne {W : World} {B e size n k : Nat} {v : Value} {xs : List Value} (h : W.ownsRow B e size v n xs) (hk : k < B) : v.ownBlock = none ∨ v.ownBlock ≠ some k := by
  right
  intro e
  have := (h.lt k e).1
  omega
theorem own_row {W : World} {B e size n k : Nat} {v : Value} {xs : List Value} (h : W.ownsRow B e size v n xs) (hk : k < B) : v.ownBlock ≠ some k := by
  intro e
  have := (h.lt k e).1
  omega
theorem own_on {w w' : World} {B e size : Nat} {v : Value} {n : Nat} {xs : List Value} (h : w.ownsRow B e size v n xs) (hb : Below w.heap.size w w') : w'.ownsRow B e size v n xs :=
  h.kept (gb hb (some w.heap.size)) (.inr fun e => by have := (h.lt _ e).2; omega)
end Go.Proofs.YtecjngodfciokaaGreatDoor.Rw
end
section
namespace Go.Proofs.YtecjngodfciokaaGreatDoor
open Go.ChangeShapes Go.WideShapes Go.ChangeAt Go.RowKit
/-- the cells of a row lie at A -/
structure Rws (w : World) (A : Option Addr) (cs : List Value) : Prop where
  at_ : ∀ j v, cs[j]? = some v → ∃ b off, A = some ⟨b, off, none⟩ ∧ b < w.heap.size ∧ w.cell? ⟨b, off + j, none⟩ = some v
theorem Rws.on {w w' : World} {A : Option Addr} {cs : List Value} (h : Rws w A cs) (hb : Below w.heap.size w w') : Rws w' A cs := ⟨fun j v hv => by
  obtain ⟨b, off, hA, hlt, hc⟩ := h.at_ j v hv
  exact ⟨b, off, hA, Nat.lt_of_lt_of_le hlt hb.size, (hb.cell (p := ⟨b, off + j, none⟩) hlt).trans hc⟩⟩
theorem Rws.far {w w' : World} {A : Option Addr} {cs : List Value} {B : Nat} (h : Rws w A cs) (hb : Below B w w') (hB : ∀ a, A = some a → a.block < B) : Rws w' A cs := ⟨fun j v hv => by
  obtain ⟨b, off, rfl, hlt, hc⟩ := h.at_ j v hv
  exact ⟨b, off, rfl, Nat.lt_of_lt_of_le hlt hb.size, (hb.cell (p := ⟨b, off + j, none⟩) (hB ⟨b, off, none⟩ rfl)).trans hc⟩⟩
theorem Rws.nil (w : World) (A : Option Addr) : Rws w A [] := ⟨fun j v hv => by simp at hv⟩
theorem Rws.no {w : World} {cs : List Value} (h : Rws w none cs) : cs = [] := by
  cases cs with
  | nil => rfl
  | cons x t => obtain ⟨b, off, e, _⟩ := h.at_ 0 x rfl; cases e
theorem Rws.lies {w : World} {A : Option Addr} {cs : List Value} (h : Rws w A cs) (hp : 0 < cs.length) : ∃ b off, A = some ⟨b, off, none⟩ ∧ b < w.heap.size ∧ ∀ j v, cs[j]? = some v → w.cell? ⟨b, off + j, none⟩ = some v := by
  obtain ⟨b, off, e, hlt, -⟩ := h.at_ 0 _ (List.getElem?_eq_getElem hp)
  refine ⟨b, off, e, hlt, fun j v hv => ?_⟩
  obtain ⟨b', off', e', -, hc⟩ := h.at_ j v hv
  rw [e] at e'
  cases e'
  exact hc
theorem Rws.drop {w : World} {b off k : Nat} {cs : List Value} (h : Rws w (some ⟨b, off, none⟩) cs) : Rws w (some ⟨b, off + k, none⟩) (cs.drop k) := ⟨fun j v hv => by
  rw [List.getElem?_drop] at hv
  obtain ⟨b', off', e, hlt, hc⟩ := h.at_ (k + j) v hv
  cases e
  exact ⟨b, off + k, rfl, hlt, by rw [Nat.add_assoc]; exact hc⟩⟩
theorem Rws.of_own {w : World} {B e sz n : Nat} {v : Value} {xs : List Value} (h : w.ownsRow B e sz v n xs) : ∃ A c, v = .slice A n c ∧ n ≤ c ∧ (A = none → c = 0) ∧ Rws w A xs ∧ ∀ a, A = some a → B ≤ a.block ∧ a.block < w.heap.size := by
  have hl := h.1
  obtain ⟨A, c, rfl, hc, ho, hx⟩ := Rw.own_cells h
  refine ⟨A, c, rfl, hc, ?_, ⟨fun j u hj => ?_⟩, fun a ha => h.lt _ (ho a ha)⟩
  · rintro rfl
    rcases h.2 with ⟨e1, _⟩ | ⟨g, cap, cur, e1, _⟩
    · exact (Value.slice.inj e1).2.2
    · exact absurd (Value.slice.inj e1).1 (by simp)
  · have hj2 : j < n * sz := by rw [← hl]; exact (List.getElem?_eq_some_iff.1 hj).1
    have hn : 0 < n := by
      rcases Nat.eq_zero_or_pos n with h0 | h0
      · rw [h0, Nat.zero_mul] at hj2; omega
      · exact h0
    obtain ⟨g, rfl, hg, hcell⟩ := hx hn
    exact ⟨g, 0, rfl, hg, by rw [Nat.zero_add, hcell j hj2]; exact hj⟩
theorem rws_add (b off j : Nat) : (⟨b, off, none⟩ : Addr).add j = ⟨b, off + j, none⟩ := by
  unfold Addr.add
  split
  · rename_i h0
    have : j = 0 := by simpa using h0
    rw [this]; rfl
  · rfl
theorem Rws.news {w : World} {b off : Nat} {cs : List Value} (h : Rws w (some ⟨b, off, none⟩) cs) : ∀ j u, cs[j]? = some u → w.cell? ((⟨b, off, none⟩ : Addr).add j) = some u := by
  intro j u hu
  rw [rws_add]
  obtain ⟨b', off', e, -, hc⟩ := h.at_ j u hu
  cases e
  exact hc
theorem Rws.of_news {w : World} {b off : Nat} {cs : List Value} (h : ∀ j u, cs[j]? = some u → w.cell? ⟨b, off + j, none⟩ = some u) : Rws w (some ⟨b, off, none⟩) cs := ⟨fun j u hu =>
  ⟨b, off, rfl, World.block_lt_of_cell? w _ (h j u hu), h j u hu⟩⟩
/-- a row of elements, appended to one of one's own -/
theorem wpList_append_rws {P : Program} (w : World) {ops : Array Oper} {rest : List Oper} {o : Oper} {a : Act} {Q : Exit → Act → World → Prop} (hgd : o.guard = none) (s x : Operand) (t : TypeId)
    (ho : o.op = .call { callee := .builtin .append, args := #[s, x], argTypes := #[t, t] })
    (base : Nat) (E : TypeId) (i : TypeInfo) (z : Value) (sz by_ : Nat) (ht : P.underlying t = some (.slice E)) (hi : P.info? E = some i) (hz : i.zero = some z)
    (hsize : i.size = sz) (hby : i.bytes = by_) (hzs : z.cells.size = sz) (h0 : 0 < sz) (hsmall : by_ ≤ 1000) {v : Value} {m : Nat} {xs : List Value} (hs : a.eval s = v) (hown : w.ownsRow base E sz v m xs)
    {A : Option Addr} {n c : Nat} {cs : List Value} (hx : a.eval x = .slice A n c) (hl : Rws w A cs) (hlen : cs.length = n * sz) (hone : ∀ u ∈ cs, u.oneCell' = true) (hn : m + n ≤ 100000) (hnil : A = none → c = 0) (hbase : base ≤ w.heap.size)
    (h : ∀ v' w', w'.ownsRow base E sz v' (m + n) (xs ++ cs) → w.grownBy w' v.ownBlock → wpList P ops Q rest (a.put o.dst v') w') : wpList P ops Q (o :: rest) a w := by
  cases A with
  | none =>
    have e := hl.no
    subst e
    have hn0 : n = 0 := by
      rcases Nat.eq_zero_or_pos n with h1 | h1
      · exact h1
      · have := Nat.mul_pos h1 h0
        simp at hlen; omega
    subst hn0
    have ec := hnil rfl
    subst ec
    refine wpList_append_own_none hgd s x t ho base E i sz ht hi v m xs hs hown hx (h _ _ ?_ (World.grownBy.refl _ _))
    rw [List.append_nil]
    exact hown
  | some ad =>
    have hb1 : (m + n) * by_ ≤ 100000 * 1000 := Nat.mul_le_mul hn hsmall
    refine wpList_append_own w hgd s x t ho base E i z sz by_ ht hi hz hsize hby hzs h0 v m xs hs hown ad n c cs hx hlen ?_ hone (by unfold maxLen; omega) (by omega) hbase ?_
    · intro j u hu
      obtain ⟨b, off, e, -, hc⟩ := hl.at_ j u hu
      cases e
      rw [rws_add]
      exact hc
    · intro v' w' h1 h2 _
      exact h v' w' h1 h2
end Go.Proofs.YtecjngodfciokaaGreatDoor
end
