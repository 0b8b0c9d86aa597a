/-
  REPLIES that come in, opened. THE SUM's TABLE, as a listed variable: what the rows say of it; a world for the witness.
-/
import Derived.Test.YtaoidjjmeejbbaaDoorRf37
import Derived.Test.YtaoidjjmeejbbaaDoorRf41
import Derived.Test.YtaoidjjmeejbbaaDoorRf50
import Derived.Lib.SmallJoins
section
namespace Go.Proofs.YtaoidjjmeejbbaaDoor
open Go.ChangeShapes Go.WideShapes Go.ChangeAt Go.RowKit
theorem u64_nat {n : Int} (h : (Lit.int .u64 n).wf = true) : ∃ k : Nat, n = (k : Int) ∧ k < 18446744073709551616 := by
  have hx : 0 ≤ n ∧ n ≤ 18446744073709551615 := by simpa [Lit.wf, IntKind.min, IntKind.max, IntKind.signed, IntKind.bits] using h
  exact ⟨n.toNat, by omega, by omega⟩
theorem txt_big {s : ByteArray} (h : s.size ≤ maxLen) : s.data.toList.length ≤ 9223372036854775807 := by
  have hz := ofL_size s.data.toList
  rw [ofL_toList] at hz
  unfold maxLen at h
  omega
theorem arrOf13 {α : Type} {cs : Array α} (h : cs.size = 13) : ∃ c0 c1 c2 c3 c4 c5 c6 c7 c8 c9 c10 c11 c12, cs = #[c0, c1, c2, c3, c4, c5, c6, c7, c8, c9, c10, c11, c12] := by
  obtain ⟨l⟩ := cs
  match l, h with
  | [c0, c1, c2, c3, c4, c5, c6, c7, c8, c9, c10, c11, c12], _ => exact ⟨c0, c1, c2, c3, c4, c5, c6, c7, c8, c9, c10, c11, c12, rfl⟩
theorem lstOf7 {α : Type} {cs : List α} (h : cs.length = 7) : ∃ c0 c1 c2 c3 c4 c5 c6, cs = [c0, c1, c2, c3, c4, c5, c6] := by
  match cs, h with
  | [c0, c1, c2, c3, c4, c5, c6], _ => exact ⟨c0, c1, c2, c3, c4, c5, c6, rfl⟩
set_option maxRecDepth 100000 in
theorem reply_open {H : Type} {enc : TypeId × Value → H} {W : World} {base : Nat} {v : Value} {d : DataW H} {ps : List MemPlace} (hv : Value.okWide Tryd.prog W .any base 40 v)
    (h : DataW.Trod enc Tryd.prog W 0 (fun _ => true) true 40 v d ps) : ∃ (x : Re) (A : Option Addr) (c : Nat), ReIn W x A c ∧ v = reV x A c := by
  obtain ⟨cs, rfl, hsz⟩ := okWide_struct Tryd.underlying40 hv
  obtain ⟨c0, c1, c2, c3, c4, c5, c6, c7, c8, c9, c10, c11, c12, rfl⟩ := arrOf13 (hsz.trans (show Tryd.prog.cellsOf 40 = 13 by kernel_rfl))
  obtain ⟨fuel, hf⟩ := h
  obtain ⟨ys, n', -, -, -, hyl, hft⟩ := DataW.trod_struct Tryd.underlying40 hf
  obtain ⟨y0, y1, y2, y3, y4, y5, y6, rfl⟩ := lstOf7 hyl
  have t0 : DataW.trod enc Tryd.prog W 0 (fun _ => true) true n' 5 (([c0, c1, c2, c3, c4, c5, c6, c7, c8, c9, c10, c11, c12].drop 0).take (Tryd.prog.cellsOf 5)) = some y0 := hft 0 _ rfl
  rw [show Tryd.prog.cellsOf 5 = 1 by kernel_rfl] at t0
  simp only [List.drop, List.take] at t0
  have t1 : DataW.trod enc Tryd.prog W 0 (fun _ => true) true n' 5 (([c0, c1, c2, c3, c4, c5, c6, c7, c8, c9, c10, c11, c12].drop 1).take (Tryd.prog.cellsOf 5)) = some y1 := hft 1 _ rfl
  rw [show Tryd.prog.cellsOf 5 = 1 by kernel_rfl] at t1
  simp only [List.drop, List.take] at t1
  have t2 : DataW.trod enc Tryd.prog W 0 (fun _ => true) true n' 23 (([c0, c1, c2, c3, c4, c5, c6, c7, c8, c9, c10, c11, c12].drop 2).take (Tryd.prog.cellsOf 23)) = some y2 := hft 2 _ rfl
  rw [show Tryd.prog.cellsOf 23 = 1 by kernel_rfl] at t2
  simp only [List.drop, List.take] at t2
  have t3 : DataW.trod enc Tryd.prog W 0 (fun _ => true) true n' 23 (([c0, c1, c2, c3, c4, c5, c6, c7, c8, c9, c10, c11, c12].drop 3).take (Tryd.prog.cellsOf 23)) = some y3 := hft 3 _ rfl
  rw [show Tryd.prog.cellsOf 23 = 1 by kernel_rfl] at t3
  simp only [List.drop, List.take] at t3
  have t4 : DataW.trod enc Tryd.prog W 0 (fun _ => true) true n' 4 (([c0, c1, c2, c3, c4, c5, c6, c7, c8, c9, c10, c11, c12].drop 4).take (Tryd.prog.cellsOf 4)) = some y4 := hft 4 _ rfl
  rw [show Tryd.prog.cellsOf 4 = 1 by kernel_rfl] at t4
  simp only [List.drop, List.take] at t4
  have t5 : DataW.trod enc Tryd.prog W 0 (fun _ => true) true n' 9 (([c0, c1, c2, c3, c4, c5, c6, c7, c8, c9, c10, c11, c12].drop 5).take (Tryd.prog.cellsOf 9)) = some y5 := hft 5 _ rfl
  rw [show Tryd.prog.cellsOf 9 = 1 by kernel_rfl] at t5
  simp only [List.drop, List.take] at t5
  have t6 : DataW.trod enc Tryd.prog W 0 (fun _ => true) true n' 38 (([c0, c1, c2, c3, c4, c5, c6, c7, c8, c9, c10, c11, c12].drop 6).take (Tryd.prog.cellsOf 38)) = some y6 := hft 6 _ rfl
  rw [show Tryd.prog.cellsOf 38 = 7 by kernel_rfl] at t6
  simp only [List.drop, List.take] at t6
  obtain ⟨zs, n2, -, -, -, hzl, hfm⟩ := DataW.trod_struct Tryd.underlying38 t6
  obtain ⟨z0, z1, z2, z3, z4, z5, z6, rfl⟩ := lstOf7 hzl
  have m0 : DataW.trod enc Tryd.prog W 0 (fun _ => true) true n2 23 (([c6, c7, c8, c9, c10, c11, c12].drop 0).take (Tryd.prog.cellsOf 23)) = some z0 := hfm 0 _ rfl
  rw [show Tryd.prog.cellsOf 23 = 1 by kernel_rfl] at m0
  simp only [List.drop, List.take] at m0
  have m1 : DataW.trod enc Tryd.prog W 0 (fun _ => true) true n2 9 (([c6, c7, c8, c9, c10, c11, c12].drop 1).take (Tryd.prog.cellsOf 9)) = some z1 := hfm 1 _ rfl
  rw [show Tryd.prog.cellsOf 9 = 1 by kernel_rfl] at m1
  simp only [List.drop, List.take] at m1
  have m2 : DataW.trod enc Tryd.prog W 0 (fun _ => true) true n2 9 (([c6, c7, c8, c9, c10, c11, c12].drop 2).take (Tryd.prog.cellsOf 9)) = some z2 := hfm 2 _ rfl
  rw [show Tryd.prog.cellsOf 9 = 1 by kernel_rfl] at m2
  simp only [List.drop, List.take] at m2
  have m3 : DataW.trod enc Tryd.prog W 0 (fun _ => true) true n2 22 (([c6, c7, c8, c9, c10, c11, c12].drop 3).take (Tryd.prog.cellsOf 22)) = some z3 := hfm 3 _ rfl
  rw [show Tryd.prog.cellsOf 22 = 1 by kernel_rfl] at m3
  simp only [List.drop, List.take] at m3
  have m4 : DataW.trod enc Tryd.prog W 0 (fun _ => true) true n2 9 (([c6, c7, c8, c9, c10, c11, c12].drop 4).take (Tryd.prog.cellsOf 9)) = some z4 := hfm 4 _ rfl
  rw [show Tryd.prog.cellsOf 9 = 1 by kernel_rfl] at m4
  simp only [List.drop, List.take] at m4
  have m5 : DataW.trod enc Tryd.prog W 0 (fun _ => true) true n2 23 (([c6, c7, c8, c9, c10, c11, c12].drop 5).take (Tryd.prog.cellsOf 23)) = some z5 := hfm 5 _ rfl
  rw [show Tryd.prog.cellsOf 23 = 1 by kernel_rfl] at m5
  simp only [List.drop, List.take] at m5
  have m6 : DataW.trod enc Tryd.prog W 0 (fun _ => true) true n2 5 (([c6, c7, c8, c9, c10, c11, c12].drop 6).take (Tryd.prog.cellsOf 5)) = some z6 := hfm 6 _ rfl
  rw [show Tryd.prog.cellsOf 5 = 1 by kernel_rfl] at m6
  simp only [List.drop, List.take] at m6
  obtain ⟨x0, e0, -, w0⟩ := DataW.trod_int Tryd.underlying5 t0
  obtain ⟨x1, e1, -, w1⟩ := DataW.trod_int Tryd.underlying5 t1
  obtain ⟨x2, e2, -, w2⟩ := DataW.trod_int Tryd.underlying23 t2
  obtain ⟨x3, e3, -, w3⟩ := DataW.trod_int Tryd.underlying23 t3
  obtain ⟨x4, e4, -⟩ := DataW.trod_bool Tryd.underlying4 t4
  obtain ⟨x5, e5, -, w5⟩ := DataW.trod_string Tryd.underlying9 t5
  obtain ⟨x6, e6, -, w6⟩ := DataW.trod_int Tryd.underlying23 m0
  obtain ⟨x7, e7, -, w7⟩ := DataW.trod_string Tryd.underlying9 m1
  obtain ⟨x8, e8, -, w8⟩ := DataW.trod_string Tryd.underlying9 m2
  obtain ⟨A, len, cc, e9⟩ := Joins.slice_form Tryd.underlying22 m3
  obtain ⟨x10, e10, -, w10⟩ := DataW.trod_string Tryd.underlying9 m4
  obtain ⟨x11, e11, -, w11⟩ := DataW.trod_int Tryd.underlying23 m5
  obtain ⟨x12, e12, -, w12⟩ := DataW.trod_int Tryd.underlying5 m6
  simp only [List.cons.injEq, and_true] at e0 e1 e2 e3 e4 e5 e6 e7 e8 e9 e10 e11 e12
  subst e0 e1 e2 e3 e4 e5 e6 e7 e8 e9 e10 e11 e12
  obtain ⟨l, rfl, hP, hfi, hc, hb⟩ := pairs_in m3
  obtain ⟨ch, rfl⟩ := byte_of_u8 w0
  obtain ⟨kd, rfl⟩ := byte_of_u8 w1
  obtain ⟨n, rfl, hn⟩ := u64_nat w2
  obtain ⟨m, rfl, hm⟩ := u64_nat w3
  obtain ⟨id, rfl, hid⟩ := u64_nat w6
  obtain ⟨due, rfl, hdue⟩ := u64_nat w11
  obtain ⟨hops, rfl, hho⟩ := nat_of_u8 w12
  exact ⟨⟨ch, kd, n, m, x4, x5.data.toList, id, x7.data.toList, x8.data.toList, l, x10.data.toList, due, hops⟩, A, cc, ⟨hP, hc, hb, ⟨txt_big w5, txt_big w7, txt_big w8, txt_big w10⟩, ⟨hn, hm, hfi⟩⟩, by unfold reV; rw [ofL_toList, ofL_toList, ofL_toList, ofL_toList]⟩
end Go.Proofs.YtaoidjjmeejbbaaDoor
end
section
namespace Go.Proofs.YtaoidjjmeejbbaaDoor
open Go.ChangeShapes Go.WideShapes Go.ChangeAt Go.RowKit
theorem gTab : Tryd.prog.globalNamed "stairwell/crc.laid" = some 0 := by kernel_rfl
theorem gTabType : (Tryd.prog.globals[(0 : Nat)]?).map (·.type) = some 150 := by kernel_rfl
theorem cells16 : Tryd.prog.cellsOf 150 = 16 := by kernel_rfl
theorem cells32 : Tryd.prog.cellsOf 135 = 1 := by kernel_rfl
theorem tab_of {W : World} (h : laidMetH Tryd.prog [("stairwell/crc.laid", Rows.laid_stairwell_crc_laid)] W) : Tab W :=
  have t : Lib.TabIs Tryd.prog W "stairwell/crc.laid" .u32 Crc.table := Lib.tabIs_of_head (rest := []) gTab gTabType Tryd.underlying150 Tryd.underlying135 cells32 cells16 h
  fun i hi => t.cell gTab i (by simpa [Crc.table] using hi)
/-- the table's block, filled -/
def crcFilled : Obj → Obj
  | .cells _ t frozen => .cells #[.int .u32 0, .int .u32 498536548, .int .u32 997073096, .int .u32 651767980, .int .u32 1994146192, .int .u32 1802195444, .int .u32 1303535960, .int .u32 1342533948, .int .u32 3988292384, .int .u32 4027552580, .int .u32 3604390888, .int .u32 3412177804, .int .u32 2607071920, .int .u32 2262029012, .int .u32 2685067896, .int .u32 3183342108] t frozen
  | o => o
end Go.Proofs.YtaoidjjmeejbbaaDoor
end
