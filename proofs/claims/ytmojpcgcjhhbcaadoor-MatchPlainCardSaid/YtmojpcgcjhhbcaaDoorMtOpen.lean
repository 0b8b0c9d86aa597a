/-
  RULES that come in, opened.
-/
import Derived.Test.YtmojpcgcjhhbcaaDoorMtS
import Derived.Test.YtmojpcgcjhhbcaaDoorHdOpen
import Derived.Lib.SmallJoins
namespace Go.Proofs.YtmojpcgcjhhbcaaDoor
open Go.ChangeShapes Go.WideShapes Go.ChangeAt Go.RowKit
set_option maxRecDepth 100000 in
theorem rule_open {H : Type} {enc : TypeId × Value → H} {W : World} {base : Nat} {v : Value} {d : DataW H} {ps : List MemPlace} (hv : Value.okWide Tryd.prog W .any base 48 v)
    (h : DataW.Trod enc Tryd.prog W 0 (fun _ => true) true 48 v d ps) : ∃ (r : Ru) (A : Option Addr) (c : Nat), RuIn W r A c ∧ v = ruV r A c := by
  obtain ⟨v0, v1, v2, v3, y0, y1, y2, y3, n, rfl, -, -, h0, h1, h2, h3⟩ := Joins.open_agg4 Tryd.underlying48 (by kernel_rfl) (by kernel_rfl) hv h
  obtain ⟨x0, e0, -, w0⟩ := DataW.trod_int Tryd.underlying5 h0
  obtain ⟨s, e1, -, -⟩ := DataW.trod_string Tryd.underlying9 h1
  obtain ⟨A, len, c, e2⟩ := Joins.slice_form Tryd.underlying22 h2
  obtain ⟨b, e3, -⟩ := DataW.trod_bool Tryd.underlying4 h3
  simp only [List.cons.injEq, and_true] at e0 e1 e2 e3
  subst e0 e1 e2 e3
  obtain ⟨l, rfl, hP, hf, hc, hb⟩ := pairs_in h2
  obtain ⟨k, rfl, -⟩ := nat_of_u8 w0
  exact ⟨⟨k, s.data.toList, l, b⟩, A, c, ⟨hP, hc, hb, hf⟩, by unfold ruV; rw [ofL_toList]⟩
end Go.Proofs.YtmojpcgcjhhbcaaDoor
