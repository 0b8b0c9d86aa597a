/-
  ROWS OF ANY ELEMENTS in memory, by their cells.
-/
import Derived.Test.YtfbajmiiecmelaaDoorRt03
import Derived.Deep.LoopGhost
import Derived.Deep.AppendLies
import Derived.Laws.AppendOwnNone
import Derived.ArgAppend
import Derived.Lib.Walk
import Derived.Lib.SliceRun
import Derived.Lib.AppendZerosOnto
section
namespace Go.Proofs.YtfbajmiiecmelaaDoor
open Go.ChangeShapes Go.WideShapes Go.ChangeAt Go.RowKit
theorem alloc1B (w : World) (o : Obj) : Below w.heap.size w (w.alloc o) := (Below.refl _ _).alloc (Nat.le_refl _) _
/-- the cells of a row lie at A -/
structure Rws (w : World) (A : Option Addr) (cs : List Value) : Prop where
  at_ : ∀ j v, cs[j]? = some v → ∃ b off, A = some ⟨b, off, none⟩ ∧ b < w.heap.size ∧ w.cell? ⟨b, off + j, none⟩ = some v
theorem Rws.on {w w' : World} {A : Option Addr} {cs : List Value} (h : Rws w A cs) (hb : Below w.heap.size w w') : Rws w' A cs := ⟨fun j v hv => by
  obtain ⟨b, off, hA, hlt, hc⟩ := h.at_ j v hv
  exact ⟨b, off, hA, Nat.lt_of_lt_of_le hlt hb.size, (hb.cell (p := ⟨b, off + j, none⟩) hlt).trans hc⟩⟩
theorem Rws.far {w w' : World} {A : Option Addr} {cs : List Value} {B : Nat} (h : Rws w A cs) (hb : Below B w w') (hB : ∀ a, A = some a → a.block < B) : Rws w' A cs := ⟨fun j v hv => by
  obtain ⟨b, off, rfl, hlt, hc⟩ := h.at_ j v hv
  exact ⟨b, off, rfl, Nat.lt_of_lt_of_le hlt hb.size, (hb.cell (p := ⟨b, off + j, none⟩) (hB ⟨b, off, none⟩ rfl)).trans hc⟩⟩
theorem Rws.nil (w : World) (A : Option Addr) : Rws w A [] := ⟨fun j v hv => by simp at hv⟩
theorem Rws.no {w : World} {cs : List Value} (h : Rws w none cs) : cs = [] := by
  cases cs with
  | nil => rfl
  | cons x t => obtain ⟨b, off, e, _⟩ := h.at_ 0 x rfl; cases e
theorem Rws.lies {w : World} {A : Option Addr} {cs : List Value} (h : Rws w A cs) (hp : 0 < cs.length) : ∃ b off, A = some ⟨b, off, none⟩ ∧ b < w.heap.size ∧ ∀ j v, cs[j]? = some v → w.cell? ⟨b, off + j, none⟩ = some v := by
  obtain ⟨b, off, e, hlt, -⟩ := h.at_ 0 _ (List.getElem?_eq_getElem hp)
  refine ⟨b, off, e, hlt, fun j v hv => ?_⟩
  obtain ⟨b', off', e', -, hc⟩ := h.at_ j v hv
  rw [e] at e'
  cases e'
  exact hc
theorem Rws.drop {w : World} {b off k : Nat} {cs : List Value} (h : Rws w (some ⟨b, off, none⟩) cs) : Rws w (some ⟨b, off + k, none⟩) (cs.drop k) := ⟨fun j v hv => by
  rw [List.getElem?_drop] at hv
  obtain ⟨b', off', e, hlt, hc⟩ := h.at_ (k + j) v hv
  cases e
  exact ⟨b, off + k, rfl, hlt, by rw [Nat.add_assoc]; exact hc⟩⟩
theorem Rws.of_own {w : World} {B e sz n : Nat} {v : Value} {xs : List Value} (h : w.ownsRow B e sz v n xs) : ∃ A c, v = .slice A n c ∧ n ≤ c ∧ (A = none → c = 0) ∧ Rws w A xs ∧ ∀ a, A = some a → B ≤ a.block ∧ a.block < w.heap.size := by
  have hl := h.1
  obtain ⟨A, c, rfl, hc, ho, hx⟩ := Rw.own_cells h
  refine ⟨A, c, rfl, hc, ?_, ⟨fun j u hj => ?_⟩, fun a ha => h.lt _ (ho a ha)⟩
  · rintro rfl
    rcases h.2 with ⟨e1, _⟩ | ⟨g, cap, cur, e1, _⟩
    · exact (Value.slice.inj e1).2.2
    · exact absurd (Value.slice.inj e1).1 (by simp)
  · have hj2 : j < n * sz := by rw [← hl]; exact (List.getElem?_eq_some_iff.1 hj).1
    have hn : 0 < n := by
      rcases Nat.eq_zero_or_pos n with h0 | h0
      · rw [h0, Nat.zero_mul] at hj2; omega
      · exact h0
    obtain ⟨g, rfl, hg, hcell⟩ := hx hn
    exact ⟨g, 0, rfl, hg, by rw [Nat.zero_add, hcell j hj2]; exact hj⟩
theorem rws_add (b off j : Nat) : (⟨b, off, none⟩ : Addr).add j = ⟨b, off + j, none⟩ := by
  unfold Addr.add
  split
  · rename_i h0
    have : j = 0 := by simpa using h0
    rw [this]; rfl
  · rfl
theorem Rws.of_news {w : World} {b off : Nat} {cs : List Value} (h : ∀ j u, cs[j]? = some u → w.cell? ⟨b, off + j, none⟩ = some u) : Rws w (some ⟨b, off, none⟩) cs := ⟨fun j u hu =>
  ⟨b, off, rfl, World.block_lt_of_cell? w _ (h j u hu), h j u hu⟩⟩
/-- a row of elements, appended to one of one's own -/
theorem wpList_append_rws {P : Program} (w : World) {ops : Array Oper} {rest : List Oper} {o : Oper} {a : Act} {Q : Exit → Act → World → Prop} (hgd : o.guard = none) (s x : Operand) (t : TypeId)
    (ho : o.op = .call { callee := .builtin .append, args := #[s, x], argTypes := #[t, t] })
    (base : Nat) (E : TypeId) (i : TypeInfo) (z : Value) (sz by_ : Nat) (ht : P.underlying t = some (.slice E)) (hi : P.info? E = some i) (hz : i.zero = some z)
    (hsize : i.size = sz) (hby : i.bytes = by_) (hzs : z.cells.size = sz) (h0 : 0 < sz) (hsmall : by_ ≤ 1000) {v : Value} {m : Nat} {xs : List Value} (hs : a.eval s = v) (hown : w.ownsRow base E sz v m xs)
    {A : Option Addr} {n c : Nat} {cs : List Value} (hx : a.eval x = .slice A n c) (hl : Rws w A cs) (hlen : cs.length = n * sz) (hone : ∀ u ∈ cs, u.oneCell' = true) (hn : m + n ≤ 100000) (hnil : A = none → c = 0) (hbase : base ≤ w.heap.size)
    (h : ∀ v' w', w'.ownsRow base E sz v' (m + n) (xs ++ cs) → w.grownBy w' v.ownBlock → wpList P ops Q rest (a.put o.dst v') w') : wpList P ops Q (o :: rest) a w := by
  cases A with
  | none =>
    have e := hl.no
    subst e
    have hn0 : n = 0 := by
      rcases Nat.eq_zero_or_pos n with h1 | h1
      · exact h1
      · have := Nat.mul_pos h1 h0
        simp at hlen; omega
    subst hn0
    have ec := hnil rfl
    subst ec
    refine wpList_append_own_none hgd s x t ho base E i sz ht hi v m xs hs hown hx (h _ _ ?_ (World.grownBy.refl _ _))
    rw [List.append_nil]
    exact hown
  | some ad =>
    have hb1 : (m + n) * by_ ≤ 100000 * 1000 := Nat.mul_le_mul hn hsmall
    refine wpList_append_own w hgd s x t ho base E i z sz by_ ht hi hz hsize hby hzs h0 v m xs hs hown ad n c cs hx hlen ?_ hone (by unfold maxLen; omega) (by omega) hbase ?_
    · intro j u hu
      obtain ⟨b, off, e, -, hc⟩ := hl.at_ j u hu
      cases e
      rw [rws_add]
      exact hc
    · intro v' w' h1 h2 _
      exact h v' w' h1 h2
/-- a row from one of its elements on -/
theorem rws_slice {A : Option Addr} {n c G sz : Nat} {cs : List Value} {w : World} (hG : G ≤ n) (hc : n ≤ c) (hn : A = none → c = 0) (hl : cs.length = n * sz) (h : Rws w A cs) :
    Rws w (if c = G then A else A.map (fun x => x.add (G * sz))) (cs.drop (G * sz)) ∧ ((if c = G then A else A.map (fun x => x.add (G * sz))) = none → c - G = 0) := by
  refine ⟨?_, ?_⟩
  · by_cases e : c = G
    · have : n = G := by omega
      rw [List.drop_of_length_le (by rw [hl, this]; exact Nat.le_refl _)]
      exact Rws.nil _ _
    · rw [if_neg e]
      cases A with
      | none => have := hn rfl; omega
      | some a =>
        by_cases hp : 0 < cs.length
        · obtain ⟨b, off, e1, -, -⟩ := h.lies hp
          cases e1
          show Rws w (some ((⟨b, off, none⟩ : Addr).add (G * sz))) _
          rw [rws_add]
          exact h.drop
        · have : cs = [] := List.eq_nil_of_length_eq_zero (by omega)
          subst this
          rw [List.drop_nil]
          exact Rws.nil _ _
  · intro e
    by_cases e1 : c = G
    · omega
    · rw [if_neg e1] at e
      cases A with
      | none => have := hn rfl; omega
      | some a => simp at e
/-- an element at a place of a row -/
theorem flat_cut {α : Type} (f : α → List Value) (c : Nat) (hf : ∀ x, (f x).length = c) : ∀ (l : List α) (i : Nat), (l.flatMap f).drop (i * c) = (l.drop i).flatMap f
  | l, 0 => by simp
  | [], i + 1 => by simp
  | x :: l, i + 1 => by
    rw [List.flatMap_cons, List.drop_succ_cons, show (i + 1) * c = (f x).length + i * c by rw [hf, Nat.succ_mul]; omega, List.drop_append, List.drop_of_length_le (Nat.le_add_right _ _), List.nil_append, Nat.add_sub_cancel_left, flat_cut f c hf l i]
end Go.Proofs.YtfbajmiiecmelaaDoor
end
