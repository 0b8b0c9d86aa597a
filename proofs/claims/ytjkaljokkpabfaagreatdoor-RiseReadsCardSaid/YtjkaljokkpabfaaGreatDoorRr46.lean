/-
  RISE READ: what the loop keeps.
-/
import Derived.Test.YtjkaljokkpabfaaGreatDoorRr37
import Derived.Test.YtjkaljokkpabfaaGreatDoorRr39
import Derived.Test.YtjkaljokkpabfaaGreatDoorRr43
import Derived.Test.YtjkaljokkpabfaaGreatDoorRr45
import Derived.Deep.AppendLies
import Derived.Deep.RegionLaw
section
namespace Go.Proofs.YtjkaljokkpabfaaGreatDoor
open Go.ChangeShapes Go.WideShapes Go.ChangeAt Go.RowKit
theorem rf_own_row {w : World} {B e sz n : Nat} {v : Value} {xs : List Value} (h : w.ownsRow B e sz v n xs) {b : Nat} (hb : b < B) : v.ownBlock ≠ some b := fun e => by have := (h.lt _ e).1; omega
/-- while a rise is read: the reader, the answer's box, its own box (that holds u), its own row v -/
structure RfIn (w w2 : World) (b c p : Nat) (R : LSt → World → Prop) (T : Nat) (s : LSt) (u v : Value) (l : List Mp) (wr : World) : Prop where
  ri : R s wr
  rc : BoxC w c [.int .u64 0, .slice none 0 0] wr
  rp : BoxC w p [.int .u64 (T : Int), u] wr
  own : wr.ownsRow w2.heap.size 25 7 v l.length (mcs l)
  hd : ∀ q ∈ l, Prs wr q.A q.x.head ∧ q.x.head.length ≤ q.c ∧ (q.x.head ≠ [] → ∀ a, q.A = some a → w2.heap.size ≤ a.block ∧ v.ownBlock ≠ some a.block)
  G : w.grownBy wr (some b)
  lt : b < w.heap.size ∧ c < w2.heap.size ∧ p < w2.heap.size ∧ c ≠ p ∧ w.heap.size ≤ w2.heap.size ∧ w2.heap.size ≤ wr.heap.size
section
variable {w w2 W W' : World} {b c p T : Nat} {R : LSt → World → Prop} {s s' : LSt} {u v : Value} {l : List Mp}
theorem RfIn.on (hR : Rder b R) (h : RfIn w w2 b c p R T s u v l W) (hb : Below W.heap.size W W') : RfIn w w2 b c p R T s u v l W' := by
  obtain ⟨l1, l2, l3, l4, l5, l6⟩ := h.lt
  exact ⟨hR.on h.ri hb, h.rc.on hb, h.rp.on hb, Rw.own_on h.own hb, fun q hq => ⟨(h.hd q hq).1.on hb, (h.hd q hq).2⟩, grown_below h.G hb, ⟨l1, l2, l3, l4, l5, Nat.le_trans l6 hb.size⟩⟩
theorem RfIn.step (h : RfIn w w2 b c p R T s u v l W) (hi : R s' W') (hg : W.grownBy W' (some b)) : RfIn w w2 b c p R T s' u v l W' := by
  obtain ⟨l1, l2, l3, l4, l5, l6⟩ := h.lt
  have hc := h.rc.ge
  have hp := h.rp.ge
  refine ⟨hi, h.rc.keptR hg (fun e => by have := Option.some.inj e; omega), h.rp.keptR hg (fun e => by have := Option.some.inj e; omega), h.own.kept hg (.inr (rf_own_row h.own (by omega))), fun q hq => ⟨?_, (h.hd q hq).2⟩, h.G.trans hg, ⟨l1, l2, l3, l4, l5, Nat.le_trans l6 hg.size⟩⟩
  by_cases e : q.x.head = []
  · rw [e]; exact Prs.nil _ _
  · exact (h.hd q hq).1.grown hg (fun a ha e2 => by have := ((h.hd q hq).2.2 e a ha).1; have := Option.some.inj e2; omega)
theorem RfIn.append (hR : Rder b R) (h : RfIn w w2 b c p R T s u v l W) {q0 : Mp} {g cap n : Nat} (hq0 : Prs W q0.A q0.x.head ∧ q0.x.head.length ≤ q0.c ∧ (q0.x.head ≠ [] → ∀ a, q0.A = some a → w2.heap.size ≤ a.block ∧ v.ownBlock ≠ some a.block)) (hg : W.grownBy W' v.ownBlock) (ho : W'.ownsRow w2.heap.size 25 7 (.slice (some ⟨g, 0, none⟩) n cap) (l ++ [q0]).length (mcs (l ++ [q0]))) (hat : v.ownBlock = some g ∨ g = W.heap.size) : RfIn w w2 b c p R T s u (.slice (some ⟨g, 0, none⟩) n cap) (l ++ [q0]) W' := by
  obtain ⟨l1, l2, l3, l4, l5, l6⟩ := h.lt
  have hno : ∀ k, k < w2.heap.size → some k ≠ v.ownBlock := fun k hk e => by have := (h.own.lt _ e.symm).1; omega
  have hnew : ∀ q : Mp, Prs W q.A q.x.head → (q.x.head ≠ [] → ∀ a, q.A = some a → w2.heap.size ≤ a.block ∧ v.ownBlock ≠ some a.block) → Prs W' q.A q.x.head ∧ (q.x.head ≠ [] → ∀ a, q.A = some a → w2.heap.size ≤ a.block ∧ (Value.slice (some ⟨g, 0, none⟩) n cap).ownBlock ≠ some a.block) := fun q h1 h2 => by
    by_cases e : q.x.head = []
    · rw [e]; exact ⟨Prs.nil _ _, fun h => absurd rfl h⟩
    · refine ⟨h1.grown hg (fun a ha e2 => (h2 e a ha).2 e2.symm), fun _ a ha => ⟨(h2 e a ha).1, fun e2 => ?_⟩⟩
      have e3 : g = a.block := Option.some.inj e2
      have := rs_prs_in h1 e ha
      rcases hat with e4 | e4
      · exact (h2 e a ha).2 (by rw [e4, e3])
      · omega
  refine ⟨hR.gr h.ri hg (hno b (by omega)), h.rc.keptR hg (hno c l2), h.rp.keptR hg (hno p l3), ho, fun q hq => ?_, grown_new h.G hg (fun k hk => by have := (h.own.lt _ hk).1; omega), ⟨l1, l2, l3, l4, l5, Nat.le_trans l6 hg.size⟩⟩
  rcases List.mem_append.1 hq with hq | hq
  · have := hnew q (h.hd q hq).1 (h.hd q hq).2.2
    exact ⟨this.1, (h.hd q hq).2.1, this.2⟩
  · obtain rfl := List.mem_singleton.1 hq
    have := hnew q hq0.1 hq0.2.2
    exact ⟨this.1, hq0.2.1, this.2⟩
theorem RfIn.store (hR : Rder b R) (h : RfIn w w2 b c p R T s u v l W) : RfIn w w2 b c p R T s v v l (W.setCell ⟨p, 1, none⟩ v) := by
  obtain ⟨l1, l2, l3, l4, l5, l6⟩ := h.lt
  have hp := h.rp.ge
  have hg := only_setCell (p := ⟨p, 1, none⟩) (World.grownBy.refl W (some p)) rfl v
  refine ⟨hR.put h.ri (by omega) 1 v, h.rc.aside (by omega) 1 v, h.rp.put 1 v (by simp), h.own.kept hg (.inr (rf_own_row h.own l3)), fun q hq => ⟨?_, (h.hd q hq).2⟩, grown_far h.G hp 1 v, ⟨l1, l2, l3, l4, l5, by simpa using l6⟩⟩
  by_cases e : q.x.head = []
  · rw [e]; exact Prs.nil _ _
  · exact (h.hd q hq).1.grown hg (fun a ha e2 => by have := ((h.hd q hq).2.2 e a ha).1; have := Option.some.inj e2; omega)
end
/-- the rise that is read lies there -/
def RfPost (R : LSt → World → Prop) (b : Nat) (s : LSt) (w : World) (e : Ending) (w' : World) : Prop := ∃ (A : Option Addr) (c : Nat) (ps : List Mp), e = .returned (.agg #[.int .u64 ((Rs.readA s).1 : Int), .slice A ps.length c]) ∧ ps.map Mp.x = (Rs.readA s).2 ∧ ps.length ≤ c ∧ (A = none → c = 0) ∧ Mas w' A ps ∧ (∀ a, A = some a → w.heap.size ≤ a.block) ∧ (∀ q ∈ ps, q.x.head ≠ [] → ∀ a, q.A = some a → w.heap.size ≤ a.block) ∧ R (Rs.readE s) w' ∧ w.grownBy w' (some b)
end Go.Proofs.YtjkaljokkpabfaaGreatDoor
end
