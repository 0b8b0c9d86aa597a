/-
  A FRAME that comes in, opened.
-/
import Derived.Test.YtecgedbabcdfkaaDoorOpenBase
import Derived.Test.YtecgedbabcdfkaaDoorOfL
namespace Go.Proofs.YtecgedbabcdfkaaDoor
open Go.ChangeShapes Go.WideShapes Go.ChangeAt Go.RowKit
set_option maxRecDepth 100000 in
theorem frame_open {H : Type} {enc : TypeId × Value → H} {W : World} {base : Nat} {v : Value} {d : DataW H} {ps : List MemPlace} (hv : Value.okWide Tryd.prog W .any base 23 v)
    (h : DataW.Trod enc Tryd.prog W 0 (fun _ => true) true 23 v d ps) : ∃ (c k : UInt8) (b : List UInt8), b.length ≤ 9223372036854775807 ∧ v = .agg #[.int .u8 (c.toNat : Int), .int .u8 (k.toNat : Int), .string (ofL b)] := by
  obtain ⟨v0, v1, v2, y0, y1, y2, n, rfl, -, -, h0, h1, h2⟩ := Joins.open_agg3 Tryd.underlying23 (by kernel_rfl) (by kernel_rfl) hv h
  obtain ⟨x0, e0, rfl, w0⟩ := DataW.trod_int Tryd.underlying5 h0
  obtain ⟨x1, e1, rfl, w1⟩ := DataW.trod_int Tryd.underlying5 h1
  obtain ⟨s, e2, rfl, w2⟩ := DataW.trod_string Tryd.underlying9 h2
  simp at e0 e1 e2
  subst e0 e1 e2
  obtain ⟨c, rfl⟩ := byte_of_u8 w0
  obtain ⟨k, rfl⟩ := byte_of_u8 w1
  refine ⟨c, k, s.data.toList, ?_, by rw [ofL_toList]⟩
  have hz := ofL_size s.data.toList
  rw [ofL_toList] at hz
  unfold maxLen at w2
  omega
end Go.Proofs.YtecgedbabcdfkaaDoor
