/-
  A HEAD READ: the program's, walked.
-/
import Derived.Test.YtnamkglflhkckaaDoorMa33
import Derived.Deep.AppendLies
section
namespace Go.Proofs.YtnamkglflhkckaaDoor
open Go.ChangeShapes Go.WideShapes Go.ChangeAt Go.RowKit
/-- while a head is read: the reader, the pairs so far in a row of one's own -/
structure RdL (w : World) (b : Nat) (R : LSt → World → Prop) (s : LSt) (v : Value) (h : List Hd.Pr) (W : World) : Prop where
  ri : R s W
  own : W.ownsRow w.heap.size 63 4 v h.length (prs h)
  G : w.grownBy W (some b)
  bw : b < w.heap.size
theorem RdL.step {w : World} {b : Nat} {R : LSt → World → Prop} {s s' : LSt} {v : Value} {h : List Hd.Pr} {W W' : World} (H : RdL w b R s v h W) (hi : R s' W') (hg : W.grownBy W' (some b)) : RdL w b R s' v h W' :=
  ⟨hi, H.own.kept hg (Rw.own_ne H.own H.bw), H.G.trans hg, H.bw⟩
theorem RdL.on {w : World} {b : Nat} {R : LSt → World → Prop} (hR : Rder b R) {s : LSt} {v : Value} {h : List Hd.Pr} {W W' : World} (H : RdL w b R s v h W) (hb : Below W.heap.size W W') : RdL w b R s v h W' :=
  ⟨hR.on H.ri hb, Rw.own_on H.own hb, grown_below H.G hb, H.bw⟩
theorem RdL.start {w : World} {b : Nat} {R : LSt → World → Prop} {s : LSt} {W : World} (hi : R s W) (hg : w.grownBy W (some b)) (hb : b < w.heap.size) : RdL w b R s (.slice none 0 0) [] W :=
  ⟨hi, World.ownsRow_nil _ _ _ _, hg, hb⟩
theorem RdL.push {w : World} {b : Nat} {R : LSt → World → Prop} (hR : Rder b R) {s : LSt} {v v' : Value} {h : List Hd.Pr} {x : Hd.Pr} {W W' : World} (H : RdL w b R s v h W) (hg : W.grownBy W' v.ownBlock) (ho : W'.ownsRow w.heap.size 63 4 v' (h ++ [x]).length (prs (h ++ [x]))) : RdL w b R s v' (h ++ [x]) W' :=
  ⟨hR.gr H.ri hg (fun e => by have := (H.own.lt b e.symm).1; have := H.bw; omega), ho, grown_new H.G hg (fun k hk => (H.own.lt k hk).1), H.bw⟩
theorem RdL.row {w : World} {b : Nat} {R : LSt → World → Prop} {s : LSt} {v : Value} {h : List Hd.Pr} {W : World} (H : RdL w b R s v h W) : ∃ A c, v = .slice A h.length c ∧ h.length ≤ c ∧ Prs W A h ∧ ∀ a, A = some a → w.heap.size ≤ a.block := by
  obtain ⟨A, c, e, hc, -, hP⟩ := rown_prs H.own
  refine ⟨A, c, e, hc, hP, fun a ha => (H.own.lt a.block ?_).1⟩
  rw [e, ha]; rfl
theorem Prs.grown {w w' : World} {A : Option Addr} {l : List Hd.Pr} {row : Option Nat} (h : Prs w A l) (hg : w.grownBy w' row) (hne : ∀ a, A = some a → some a.block ≠ row) : Prs w' A l := ⟨fun i hi => by
  obtain ⟨b, off, hA, hlt, hat⟩ := h.at_ i hi
  have hb := hne _ hA
  exact ⟨b, off, hA, Nat.lt_of_lt_of_le hlt hg.size, hg.cell hat.c0 hb, hg.cell hat.c1 hb, hg.cell hat.c2 hb, hg.cell hat.c3 hb⟩⟩
end Go.Proofs.YtnamkglflhkckaaDoor
end
