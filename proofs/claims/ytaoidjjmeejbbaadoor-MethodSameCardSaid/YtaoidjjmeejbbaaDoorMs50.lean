/-
  METHODS that come in, opened.
-/
import Derived.Test.YtaoidjjmeejbbaaDoorMs31
import Derived.Test.YtaoidjjmeejbbaaDoorMs49
import Derived.Lib.SmallJoins
section
namespace Go.Proofs.YtaoidjjmeejbbaaDoor
open Go.ChangeShapes Go.WideShapes Go.ChangeAt Go.RowKit
theorem u64_nat {n : Int} (h : (Lit.int .u64 n).wf = true) : ∃ k : Nat, n = (k : Int) ∧ k < 18446744073709551616 := by
  have hx : 0 ≤ n ∧ n ≤ 18446744073709551615 := by simpa [Lit.wf, IntKind.min, IntKind.max, IntKind.signed, IntKind.bits] using h
  exact ⟨n.toNat, by omega, by omega⟩
theorem txt_big {s : ByteArray} (h : s.size ≤ maxLen) : s.data.toList.length ≤ 9223372036854775807 := by
  have hz := ofL_size s.data.toList
  rw [ofL_toList] at hz
  unfold maxLen at h
  omega
theorem arrOf10 {α : Type} {cs : Array α} (h : cs.size = 10) : ∃ c0 c1 c2 c3 c4 c5 c6 c7 c8 c9, cs = #[c0, c1, c2, c3, c4, c5, c6, c7, c8, c9] := by
  obtain ⟨l⟩ := cs
  match l, h with
  | [c0, c1, c2, c3, c4, c5, c6, c7, c8, c9], _ => exact ⟨c0, c1, c2, c3, c4, c5, c6, c7, c8, c9, rfl⟩
theorem lstOf10 {α : Type} {cs : List α} (h : cs.length = 10) : ∃ c0 c1 c2 c3 c4 c5 c6 c7 c8 c9, cs = [c0, c1, c2, c3, c4, c5, c6, c7, c8, c9] := by
  match cs, h with
  | [c0, c1, c2, c3, c4, c5, c6, c7, c8, c9], _ => exact ⟨c0, c1, c2, c3, c4, c5, c6, c7, c8, c9, rfl⟩
set_option maxRecDepth 100000 in
theorem method_open {H : Type} {enc : TypeId × Value → H} {W : World} {base : Nat} {v : Value} {d : DataW H} {ps : List MemPlace} (hv : Value.okWide Tryd.prog W .any base 25 v)
    (h : DataW.Trod enc Tryd.prog W 0 (fun _ => true) true 25 v d ps) : ∃ (x : Me) (A : Option Addr) (c : Nat), MeIn W x A c ∧ v = meV x A c := by
  obtain ⟨cs, rfl, hsz⟩ := okWide_struct Tryd.underlying25 hv
  obtain ⟨c0, c1, c2, c3, c4, c5, c6, c7, c8, c9, rfl⟩ := arrOf10 (hsz.trans (show Tryd.prog.cellsOf 25 = 10 by kernel_rfl))
  obtain ⟨fuel, hf⟩ := h
  obtain ⟨ys, n', -, -, -, hyl, hft⟩ := DataW.trod_struct Tryd.underlying25 hf
  obtain ⟨y0, y1, y2, y3, y4, y5, y6, y7, y8, y9, rfl⟩ := lstOf10 hyl
  have t0 : DataW.trod enc Tryd.prog W 0 (fun _ => true) true n' 5 (([c0, c1, c2, c3, c4, c5, c6, c7, c8, c9].drop 0).take (Tryd.prog.cellsOf 5)) = some y0 := hft 0 _ rfl
  rw [show Tryd.prog.cellsOf 5 = 1 by kernel_rfl] at t0
  simp only [List.drop, List.take] at t0
  have t1 : DataW.trod enc Tryd.prog W 0 (fun _ => true) true n' 5 (([c0, c1, c2, c3, c4, c5, c6, c7, c8, c9].drop 1).take (Tryd.prog.cellsOf 5)) = some y1 := hft 1 _ rfl
  rw [show Tryd.prog.cellsOf 5 = 1 by kernel_rfl] at t1
  simp only [List.drop, List.take] at t1
  have t2 : DataW.trod enc Tryd.prog W 0 (fun _ => true) true n' 9 (([c0, c1, c2, c3, c4, c5, c6, c7, c8, c9].drop 2).take (Tryd.prog.cellsOf 9)) = some y2 := hft 2 _ rfl
  rw [show Tryd.prog.cellsOf 9 = 1 by kernel_rfl] at t2
  simp only [List.drop, List.take] at t2
  have t3 : DataW.trod enc Tryd.prog W 0 (fun _ => true) true n' 9 (([c0, c1, c2, c3, c4, c5, c6, c7, c8, c9].drop 3).take (Tryd.prog.cellsOf 9)) = some y3 := hft 3 _ rfl
  rw [show Tryd.prog.cellsOf 9 = 1 by kernel_rfl] at t3
  simp only [List.drop, List.take] at t3
  have t4 : DataW.trod enc Tryd.prog W 0 (fun _ => true) true n' 9 (([c0, c1, c2, c3, c4, c5, c6, c7, c8, c9].drop 4).take (Tryd.prog.cellsOf 9)) = some y4 := hft 4 _ rfl
  rw [show Tryd.prog.cellsOf 9 = 1 by kernel_rfl] at t4
  simp only [List.drop, List.take] at t4
  have t5 : DataW.trod enc Tryd.prog W 0 (fun _ => true) true n' 22 (([c0, c1, c2, c3, c4, c5, c6, c7, c8, c9].drop 5).take (Tryd.prog.cellsOf 22)) = some y5 := hft 5 _ rfl
  rw [show Tryd.prog.cellsOf 22 = 1 by kernel_rfl] at t5
  simp only [List.drop, List.take] at t5
  have t6 : DataW.trod enc Tryd.prog W 0 (fun _ => true) true n' 9 (([c0, c1, c2, c3, c4, c5, c6, c7, c8, c9].drop 6).take (Tryd.prog.cellsOf 9)) = some y6 := hft 6 _ rfl
  rw [show Tryd.prog.cellsOf 9 = 1 by kernel_rfl] at t6
  simp only [List.drop, List.take] at t6
  have t7 : DataW.trod enc Tryd.prog W 0 (fun _ => true) true n' 23 (([c0, c1, c2, c3, c4, c5, c6, c7, c8, c9].drop 7).take (Tryd.prog.cellsOf 23)) = some y7 := hft 7 _ rfl
  rw [show Tryd.prog.cellsOf 23 = 1 by kernel_rfl] at t7
  simp only [List.drop, List.take] at t7
  have t8 : DataW.trod enc Tryd.prog W 0 (fun _ => true) true n' 23 (([c0, c1, c2, c3, c4, c5, c6, c7, c8, c9].drop 8).take (Tryd.prog.cellsOf 23)) = some y8 := hft 8 _ rfl
  rw [show Tryd.prog.cellsOf 23 = 1 by kernel_rfl] at t8
  simp only [List.drop, List.take] at t8
  have t9 : DataW.trod enc Tryd.prog W 0 (fun _ => true) true n' 4 (([c0, c1, c2, c3, c4, c5, c6, c7, c8, c9].drop 9).take (Tryd.prog.cellsOf 4)) = some y9 := hft 9 _ rfl
  rw [show Tryd.prog.cellsOf 4 = 1 by kernel_rfl] at t9
  simp only [List.drop, List.take] at t9
  obtain ⟨x0, e0, -, w0⟩ := DataW.trod_int Tryd.underlying5 t0
  obtain ⟨x1, e1, -, w1⟩ := DataW.trod_int Tryd.underlying5 t1
  obtain ⟨x2, e2, -, w2⟩ := DataW.trod_string Tryd.underlying9 t2
  obtain ⟨x3, e3, -, w3⟩ := DataW.trod_string Tryd.underlying9 t3
  obtain ⟨x4, e4, -, w4⟩ := DataW.trod_string Tryd.underlying9 t4
  obtain ⟨A, len, cc, e5⟩ := Joins.slice_form Tryd.underlying22 t5
  obtain ⟨x6, e6, -, w6⟩ := DataW.trod_string Tryd.underlying9 t6
  obtain ⟨x7, e7, -, w7⟩ := DataW.trod_int Tryd.underlying23 t7
  obtain ⟨x8, e8, -, w8⟩ := DataW.trod_int Tryd.underlying23 t8
  obtain ⟨x9, e9, -⟩ := DataW.trod_bool Tryd.underlying4 t9
  simp only [List.cons.injEq, and_true] at e0 e1 e2 e3 e4 e5 e6 e7 e8 e9
  subst e0 e1 e2 e3 e4 e5 e6 e7 e8 e9
  obtain ⟨l, rfl, hP, hfi, hc, hb⟩ := pairs_in t5
  obtain ⟨ch, rfl⟩ := byte_of_u8 w0
  obtain ⟨kd, rfl⟩ := byte_of_u8 w1
  obtain ⟨n, rfl, hn⟩ := u64_nat w7
  obtain ⟨m, rfl, hm⟩ := u64_nat w8
  exact ⟨⟨ch, kd, x2.data.toList, x3.data.toList, x4.data.toList, l, x6.data.toList, n, m, x9⟩, A, cc, ⟨hP, hc, hb, ⟨txt_big w2, txt_big w3, txt_big w4, txt_big w6⟩, ⟨hn, hm, hfi⟩⟩, by unfold meV; rw [ofL_toList, ofL_toList, ofL_toList, ofL_toList]⟩
end Go.Proofs.YtaoidjjmeejbbaaDoor
end
