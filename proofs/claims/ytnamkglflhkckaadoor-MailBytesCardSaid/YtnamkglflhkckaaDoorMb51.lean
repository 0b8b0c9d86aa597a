/-
  MESSAGES that come in, opened.
-/
import Derived.Test.YtnamkglflhkckaaDoorMb47
import Derived.Test.YtnamkglflhkckaaDoorMb50
import Derived.Lib.SmallJoins
section
namespace Go.Proofs.YtnamkglflhkckaaDoor
open Go.ChangeShapes Go.WideShapes Go.ChangeAt Go.RowKit
theorem u64_nat {n : Int} (h : (Lit.int .u64 n).wf = true) : ∃ k : Nat, n = (k : Int) ∧ k < 18446744073709551616 := by
  have hx : 0 ≤ n ∧ n ≤ 18446744073709551615 := by simpa [Lit.wf, IntKind.min, IntKind.max, IntKind.signed, IntKind.bits] using h
  exact ⟨n.toNat, by omega, by omega⟩
theorem txt_big {s : ByteArray} (h : s.size ≤ maxLen) : s.data.toList.length ≤ 9223372036854775807 := by
  have hz := ofL_size s.data.toList
  rw [ofL_toList] at hz
  unfold maxLen at h
  omega
theorem arrOf7 {α : Type} {cs : Array α} (h : cs.size = 7) : ∃ c0 c1 c2 c3 c4 c5 c6, cs = #[c0, c1, c2, c3, c4, c5, c6] := by
  obtain ⟨l⟩ := cs
  match l, h with
  | [c0, c1, c2, c3, c4, c5, c6], _ => exact ⟨c0, c1, c2, c3, c4, c5, c6, rfl⟩
theorem lstOf7 {α : Type} {cs : List α} (h : cs.length = 7) : ∃ c0 c1 c2 c3 c4 c5 c6, cs = [c0, c1, c2, c3, c4, c5, c6] := by
  match cs, h with
  | [c0, c1, c2, c3, c4, c5, c6], _ => exact ⟨c0, c1, c2, c3, c4, c5, c6, rfl⟩
set_option maxRecDepth 100000 in
theorem mail_open {H : Type} {enc : TypeId × Value → H} {W : World} {base : Nat} {v : Value} {d : DataW H} {ps : List MemPlace} (hv : Value.okWide Tryd.prog W .any base 28 v)
    (h : DataW.Trod enc Tryd.prog W 0 (fun _ => true) true 28 v d ps) : ∃ (x : Ml) (A : Option Addr) (c : Nat), MaIn W x A c ∧ v = maV x A c := by
  obtain ⟨cs, rfl, hsz⟩ := okWide_struct Tryd.underlying28 hv
  obtain ⟨c0, c1, c2, c3, c4, c5, c6, rfl⟩ := arrOf7 (hsz.trans (show Tryd.prog.cellsOf 28 = 7 by kernel_rfl))
  obtain ⟨fuel, hf⟩ := h
  obtain ⟨ys, n', -, -, -, hyl, hft⟩ := DataW.trod_struct Tryd.underlying28 hf
  obtain ⟨y0, y1, y2, y3, y4, y5, y6, rfl⟩ := lstOf7 hyl
  have t0 : DataW.trod enc Tryd.prog W 0 (fun _ => true) true n' 25 (([c0, c1, c2, c3, c4, c5, c6].drop 0).take (Tryd.prog.cellsOf 25)) = some y0 := hft 0 _ rfl
  rw [show Tryd.prog.cellsOf 25 = 1 by kernel_rfl] at t0
  simp only [List.drop, List.take] at t0
  have t1 : DataW.trod enc Tryd.prog W 0 (fun _ => true) true n' 9 (([c0, c1, c2, c3, c4, c5, c6].drop 1).take (Tryd.prog.cellsOf 9)) = some y1 := hft 1 _ rfl
  rw [show Tryd.prog.cellsOf 9 = 1 by kernel_rfl] at t1
  simp only [List.drop, List.take] at t1
  have t2 : DataW.trod enc Tryd.prog W 0 (fun _ => true) true n' 9 (([c0, c1, c2, c3, c4, c5, c6].drop 2).take (Tryd.prog.cellsOf 9)) = some y2 := hft 2 _ rfl
  rw [show Tryd.prog.cellsOf 9 = 1 by kernel_rfl] at t2
  simp only [List.drop, List.take] at t2
  have t3 : DataW.trod enc Tryd.prog W 0 (fun _ => true) true n' 26 (([c0, c1, c2, c3, c4, c5, c6].drop 3).take (Tryd.prog.cellsOf 26)) = some y3 := hft 3 _ rfl
  rw [show Tryd.prog.cellsOf 26 = 1 by kernel_rfl] at t3
  simp only [List.drop, List.take] at t3
  have t4 : DataW.trod enc Tryd.prog W 0 (fun _ => true) true n' 9 (([c0, c1, c2, c3, c4, c5, c6].drop 4).take (Tryd.prog.cellsOf 9)) = some y4 := hft 4 _ rfl
  rw [show Tryd.prog.cellsOf 9 = 1 by kernel_rfl] at t4
  simp only [List.drop, List.take] at t4
  have t5 : DataW.trod enc Tryd.prog W 0 (fun _ => true) true n' 25 (([c0, c1, c2, c3, c4, c5, c6].drop 5).take (Tryd.prog.cellsOf 25)) = some y5 := hft 5 _ rfl
  rw [show Tryd.prog.cellsOf 25 = 1 by kernel_rfl] at t5
  simp only [List.drop, List.take] at t5
  have t6 : DataW.trod enc Tryd.prog W 0 (fun _ => true) true n' 5 (([c0, c1, c2, c3, c4, c5, c6].drop 6).take (Tryd.prog.cellsOf 5)) = some y6 := hft 6 _ rfl
  rw [show Tryd.prog.cellsOf 5 = 1 by kernel_rfl] at t6
  simp only [List.drop, List.take] at t6
  obtain ⟨x0, e0, -, w0⟩ := DataW.trod_int Tryd.underlying25 t0
  obtain ⟨x1, e1, -, w1⟩ := DataW.trod_string Tryd.underlying9 t1
  obtain ⟨x2, e2, -, w2⟩ := DataW.trod_string Tryd.underlying9 t2
  obtain ⟨A, len, cc, e3⟩ := Joins.slice_form Tryd.underlying26 t3
  obtain ⟨x4, e4, -, w4⟩ := DataW.trod_string Tryd.underlying9 t4
  obtain ⟨x5, e5, -, w5⟩ := DataW.trod_int Tryd.underlying25 t5
  obtain ⟨x6, e6, -, w6⟩ := DataW.trod_int Tryd.underlying5 t6
  simp only [List.cons.injEq, and_true] at e0 e1 e2 e3 e4 e5 e6
  subst e0 e1 e2 e3 e4 e5 e6
  obtain ⟨l, rfl, hP, hfi, hc, hb⟩ := pairs_in t3
  obtain ⟨id, rfl, hid⟩ := u64_nat w0
  obtain ⟨due, rfl, hdue⟩ := u64_nat w5
  obtain ⟨hops, rfl, hho⟩ := nat_of_u8 w6
  exact ⟨⟨id, x1.data.toList, x2.data.toList, l, x4.data.toList, due, hops⟩, A, cc, ⟨hP, hc, hb, ⟨txt_big w1, txt_big w2, txt_big w4⟩, ⟨hid, hdue, hho, hfi⟩⟩, by unfold maV; rw [ofL_toList, ofL_toList, ofL_toList]⟩
end Go.Proofs.YtnamkglflhkckaaDoor
end
