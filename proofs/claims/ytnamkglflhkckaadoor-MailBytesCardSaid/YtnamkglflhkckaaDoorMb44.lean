/-
  A HEAD READ: the document's, walked.
-/
import Derived.Test.YtnamkglflhkckaaDoorMb34
import Derived.Deep.CutRange
section
namespace Go.Proofs.YtnamkglflhkckaaDoor
open Go.ChangeShapes Go.WideShapes Go.ChangeAt Go.RowKit
/-- within the document's round: the reader, the pairs so far, the pair's box -/
structure RdM (w : World) (b : Nat) (R : LSt → World → Prop) (s : LSt) (v : Value) (h : List Hd.Pr) (p : Nat) (ys : List Value) (W : World) : Prop where
  L : RdL w b R s v h W
  rp : BoxC w p ys W
  pb : p ≠ b
  hv : ∀ k, v.ownBlock = some k → k ≠ p
theorem RdM.step {w : World} {b : Nat} {R : LSt → World → Prop} {s s' : LSt} {v : Value} {h : List Hd.Pr} {p : Nat} {ys : List Value} {W W' : World} (H : RdM w b R s v h p ys W) (hi : R s' W') (hg : W.grownBy W' (some b)) : RdM w b R s' v h p ys W' :=
  ⟨H.L.step hi hg, H.rp.grown hg H.pb, H.pb, H.hv⟩
theorem RdM.on {w : World} {b : Nat} {R : LSt → World → Prop} (hR : Rder b R) {s : LSt} {v : Value} {h : List Hd.Pr} {p : Nat} {ys : List Value} {W W' : World} (H : RdM w b R s v h p ys W) (hb : Below W.heap.size W W') : RdM w b R s v h p ys W' :=
  ⟨H.L.on hR hb, H.rp.on hb, H.pb, H.hv⟩
theorem RdM.put {w : World} {b : Nat} {R : LSt → World → Prop} (hR : Rder b R) {s : LSt} {v : Value} {h : List Hd.Pr} {p : Nat} {ys : List Value} {W : World} (H : RdM w b R s v h p ys W) (j : Nat) (u : Value) (hj : j < ys.length) : RdM w b R s v h p (ys.set j u) (W.setCell ⟨p, j, none⟩ u) :=
  ⟨⟨hR.put H.L.ri H.pb j u, H.L.own.kept (only_setCell (p := ⟨p, j, none⟩) (World.grownBy.refl W (some p)) rfl u) (by
      cases hk : v.ownBlock with
      | none => exact Or.inl rfl
      | some k => exact Or.inr fun e => H.hv k hk (Option.some.inj e)), grown_far H.L.G H.rp.ge j u, H.L.bw⟩, H.rp.put j u hj, H.pb, H.hv⟩
theorem RdM.start {w : World} {b : Nat} {R : LSt → World → Prop} (hR : Rder b R) {s : LSt} {v : Value} {h : List Hd.Pr} {W : World} (H : RdL w b R s v h W) (c : Array Value) (t : TypeId) : RdM w b R s v h W.heap.size c.toList (W.alloc (.cells c t)) :=
  ⟨H.on hR ((Below.refl W.heap.size W).alloc (Nat.le_refl _) _), BoxC.new H.G.size _ _, by have := hR.lt H.ri; omega, fun k hk => by have := (H.own.lt k hk).2; omega⟩
end Go.Proofs.YtnamkglflhkckaaDoor
end
