/-
  REPLIES that come in, a row of them, opened. THE SUM's TABLE, as a listed variable: what the rows say of it; a world for the witness.
-/
import Derived.Test.YtnjlhafhgfpfiaaGreatDoorRb36
import Derived.Test.YtnjlhafhgfpfiaaGreatDoorRb47
import Derived.Test.YtnjlhafhgfpfiaaGreatDoorRb50
import Derived.Deep.Slices
import Derived.Deep.Fields
import Derived.ChangeSame
section
namespace Go.Proofs.YtnjlhafhgfpfiaaGreatDoor
open Go.ChangeShapes Go.WideShapes Go.Deep Go.RowKit
theorem racs_addr {b off : Nat} {k j : Nat} : ((⟨b, off, none⟩ : Addr).add k).add j = ⟨b, off + k + j, none⟩ := by
  unfold Addr.add
  (repeat' split) <;> simp_all <;> omega
theorem racs_row {H : Type} {enc : TypeId × Value → H} {P : Program} {W : World} {t e : TypeId} {C : Nat} {A : Option Addr} {len cap : Nat} {fuel : Nat} {y : DataW H × List MemPlace} (ht : P.underlying t = some (.slice e)) (hC : P.cellsOf e = C) (h0 : 0 < C)
    (h : DataW.trod enc P W 0 (fun _ => true) true fuel t [.slice A len cap] = some y) :
    len ≤ cap ∧ cap ≤ 9223372036854775807 ∧ (A = none → cap = 0) ∧ ∀ i, i < len → ∃ b off, A = some ⟨b, off, none⟩ ∧ b < W.heap.size ∧ ∃ cs n y, cs.length = C ∧ (∀ j, j < C → W.cell? (((⟨b, off, none⟩ : Addr).add (i * C)).add j) = cs[j]?) ∧ DataW.trod enc P W 0 (fun _ => true) true n e cs = some y := by
  rcases open_slice ht h with ⟨hcs, _⟩ | ⟨a, l, c, m, n, D, Q, hcs, _, hl, hm, hmm, _, hi⟩
  · simp at hcs
    obtain ⟨rfl, rfl, rfl⟩ := hcs
    exact ⟨Nat.le_refl _, by omega, fun _ => rfl, fun i hi => absurd hi (by omega)⟩
  · simp at hcs
    obtain ⟨rfl, rfl, rfl⟩ := hcs
    have hm' : m = cap := by simpa using hmm
    subst hm'
    rw [hC] at hi
    refine ⟨hl, by unfold maxLen at hm; omega, (fun e => by cases e), fun i hil => ?_⟩
    obtain ⟨cs', hc, ht'⟩ := hi i (by omega)
    obtain ⟨_, hcl, hat⟩ := World.cells?_some hc
    obtain ⟨b, off, spot⟩ := a
    have hsp : spot = none := by
      obtain ⟨cs0, hc0, -⟩ := hi 0 (by omega)
      obtain ⟨_, hcl0, hat0⟩ := World.cells?_some hc0
      have h1 : W.cell? (((⟨b, off, spot⟩ : Addr).add (0 * C)).add 0) = some (cs0[0]'(by omega)) := by rw [hat0 0 h0, List.getElem?_eq_getElem (by omega)]
      have := World.cell?_spot h1
      simpa [Addr.add] using this
    subst hsp
    have h1 : W.cell? (((⟨b, off, none⟩ : Addr).add (i * C)).add 0) = some (cs'[0]'(by omega)) := by rw [hat 0 h0, List.getElem?_eq_getElem (by omega)]
    have hb : b < W.heap.size := by
      have := World.block_lt_of_cell? W _ h1
      revert this
      unfold Addr.add
      (repeat' split) <;> intro h <;> simpa using h
    exact ⟨b, off, rfl, hb, cs', n, _, hcl, hat, ht'⟩
theorem lstOf13 {α : Type} {cs : List α} (h : cs.length = 13) : ∃ c0 c1 c2 c3 c4 c5 c6 c7 c8 c9 c10 c11 c12, cs = [c0, c1, c2, c3, c4, c5, c6, c7, c8, c9, c10, c11, c12] := by
  match cs, h with
  | [c0, c1, c2, c3, c4, c5, c6, c7, c8, c9, c10, c11, c12], _ => exact ⟨c0, c1, c2, c3, c4, c5, c6, c7, c8, c9, c10, c11, c12, rfl⟩
set_option maxRecDepth 100000 in
set_option maxHeartbeats 2000000 in
theorem reply_cells {H : Type} {enc : TypeId × Value → H} {W : World} {n : Nat} {cs : List Value} {y : DataW H × List MemPlace} (hcl : cs.length = 13)
    (h : DataW.trod enc Tryz.prog W 0 (fun _ => true) true n 30 cs = some y) : ∃ (x : Re) (A : Option Addr) (c : Nat), ReIn W x A c ∧ cs = reL x A c := by
  obtain ⟨c0, c1, c2, c3, c4, c5, c6, c7, c8, c9, c10, c11, c12, rfl⟩ := lstOf13 hcl
  obtain ⟨ys, n', -, -, -, hyl, hft⟩ := DataW.trod_struct Tryz.underlying30 h
  obtain ⟨y0, y1, y2, y3, y4, y5, y6, rfl⟩ := lstOf7 hyl
  have t0 : DataW.trod enc Tryz.prog W 0 (fun _ => true) true n' 5 (([c0, c1, c2, c3, c4, c5, c6, c7, c8, c9, c10, c11, c12].drop 0).take (Tryz.prog.cellsOf 5)) = some y0 := hft 0 _ rfl
  rw [show Tryz.prog.cellsOf 5 = 1 by kernel_rfl] at t0
  simp only [List.drop, List.take] at t0
  have t1 : DataW.trod enc Tryz.prog W 0 (fun _ => true) true n' 5 (([c0, c1, c2, c3, c4, c5, c6, c7, c8, c9, c10, c11, c12].drop 1).take (Tryz.prog.cellsOf 5)) = some y1 := hft 1 _ rfl
  rw [show Tryz.prog.cellsOf 5 = 1 by kernel_rfl] at t1
  simp only [List.drop, List.take] at t1
  have t2 : DataW.trod enc Tryz.prog W 0 (fun _ => true) true n' 25 (([c0, c1, c2, c3, c4, c5, c6, c7, c8, c9, c10, c11, c12].drop 2).take (Tryz.prog.cellsOf 25)) = some y2 := hft 2 _ rfl
  rw [show Tryz.prog.cellsOf 25 = 1 by kernel_rfl] at t2
  simp only [List.drop, List.take] at t2
  have t3 : DataW.trod enc Tryz.prog W 0 (fun _ => true) true n' 25 (([c0, c1, c2, c3, c4, c5, c6, c7, c8, c9, c10, c11, c12].drop 3).take (Tryz.prog.cellsOf 25)) = some y3 := hft 3 _ rfl
  rw [show Tryz.prog.cellsOf 25 = 1 by kernel_rfl] at t3
  simp only [List.drop, List.take] at t3
  have t4 : DataW.trod enc Tryz.prog W 0 (fun _ => true) true n' 4 (([c0, c1, c2, c3, c4, c5, c6, c7, c8, c9, c10, c11, c12].drop 4).take (Tryz.prog.cellsOf 4)) = some y4 := hft 4 _ rfl
  rw [show Tryz.prog.cellsOf 4 = 1 by kernel_rfl] at t4
  simp only [List.drop, List.take] at t4
  have t5 : DataW.trod enc Tryz.prog W 0 (fun _ => true) true n' 9 (([c0, c1, c2, c3, c4, c5, c6, c7, c8, c9, c10, c11, c12].drop 5).take (Tryz.prog.cellsOf 9)) = some y5 := hft 5 _ rfl
  rw [show Tryz.prog.cellsOf 9 = 1 by kernel_rfl] at t5
  simp only [List.drop, List.take] at t5
  have t6 : DataW.trod enc Tryz.prog W 0 (fun _ => true) true n' 28 (([c0, c1, c2, c3, c4, c5, c6, c7, c8, c9, c10, c11, c12].drop 6).take (Tryz.prog.cellsOf 28)) = some y6 := hft 6 _ rfl
  rw [show Tryz.prog.cellsOf 28 = 7 by kernel_rfl] at t6
  simp only [List.drop, List.take] at t6
  obtain ⟨zs, n2, -, -, -, hzl, hfm⟩ := DataW.trod_struct Tryz.underlying28 t6
  obtain ⟨z0, z1, z2, z3, z4, z5, z6, rfl⟩ := lstOf7 hzl
  have m0 : DataW.trod enc Tryz.prog W 0 (fun _ => true) true n2 25 (([c6, c7, c8, c9, c10, c11, c12].drop 0).take (Tryz.prog.cellsOf 25)) = some z0 := hfm 0 _ rfl
  rw [show Tryz.prog.cellsOf 25 = 1 by kernel_rfl] at m0
  simp only [List.drop, List.take] at m0
  have m1 : DataW.trod enc Tryz.prog W 0 (fun _ => true) true n2 9 (([c6, c7, c8, c9, c10, c11, c12].drop 1).take (Tryz.prog.cellsOf 9)) = some z1 := hfm 1 _ rfl
  rw [show Tryz.prog.cellsOf 9 = 1 by kernel_rfl] at m1
  simp only [List.drop, List.take] at m1
  have m2 : DataW.trod enc Tryz.prog W 0 (fun _ => true) true n2 9 (([c6, c7, c8, c9, c10, c11, c12].drop 2).take (Tryz.prog.cellsOf 9)) = some z2 := hfm 2 _ rfl
  rw [show Tryz.prog.cellsOf 9 = 1 by kernel_rfl] at m2
  simp only [List.drop, List.take] at m2
  have m3 : DataW.trod enc Tryz.prog W 0 (fun _ => true) true n2 26 (([c6, c7, c8, c9, c10, c11, c12].drop 3).take (Tryz.prog.cellsOf 26)) = some z3 := hfm 3 _ rfl
  rw [show Tryz.prog.cellsOf 26 = 1 by kernel_rfl] at m3
  simp only [List.drop, List.take] at m3
  have m4 : DataW.trod enc Tryz.prog W 0 (fun _ => true) true n2 9 (([c6, c7, c8, c9, c10, c11, c12].drop 4).take (Tryz.prog.cellsOf 9)) = some z4 := hfm 4 _ rfl
  rw [show Tryz.prog.cellsOf 9 = 1 by kernel_rfl] at m4
  simp only [List.drop, List.take] at m4
  have m5 : DataW.trod enc Tryz.prog W 0 (fun _ => true) true n2 25 (([c6, c7, c8, c9, c10, c11, c12].drop 5).take (Tryz.prog.cellsOf 25)) = some z5 := hfm 5 _ rfl
  rw [show Tryz.prog.cellsOf 25 = 1 by kernel_rfl] at m5
  simp only [List.drop, List.take] at m5
  have m6 : DataW.trod enc Tryz.prog W 0 (fun _ => true) true n2 5 (([c6, c7, c8, c9, c10, c11, c12].drop 6).take (Tryz.prog.cellsOf 5)) = some z6 := hfm 6 _ rfl
  rw [show Tryz.prog.cellsOf 5 = 1 by kernel_rfl] at m6
  simp only [List.drop, List.take] at m6
  obtain ⟨x0, e0, -, w0⟩ := DataW.trod_int Tryz.underlying5 t0
  obtain ⟨x1, e1, -, w1⟩ := DataW.trod_int Tryz.underlying5 t1
  obtain ⟨x2, e2, -, w2⟩ := DataW.trod_int Tryz.underlying25 t2
  obtain ⟨x3, e3, -, w3⟩ := DataW.trod_int Tryz.underlying25 t3
  obtain ⟨x4, e4, -⟩ := DataW.trod_bool Tryz.underlying4 t4
  obtain ⟨x5, e5, -, w5⟩ := DataW.trod_string Tryz.underlying9 t5
  obtain ⟨x6, e6, -, w6⟩ := DataW.trod_int Tryz.underlying25 m0
  obtain ⟨x7, e7, -, w7⟩ := DataW.trod_string Tryz.underlying9 m1
  obtain ⟨x8, e8, -, w8⟩ := DataW.trod_string Tryz.underlying9 m2
  obtain ⟨A, len, cc, e9⟩ := Joins.slice_form Tryz.underlying26 m3
  obtain ⟨x10, e10, -, w10⟩ := DataW.trod_string Tryz.underlying9 m4
  obtain ⟨x11, e11, -, w11⟩ := DataW.trod_int Tryz.underlying25 m5
  obtain ⟨x12, e12, -, w12⟩ := DataW.trod_int Tryz.underlying5 m6
  simp only [List.cons.injEq, and_true] at e0 e1 e2 e3 e4 e5 e6 e7 e8 e9 e10 e11 e12
  subst e0 e1 e2 e3 e4 e5 e6 e7 e8 e9 e10 e11 e12
  obtain ⟨l, rfl, hP, hfi, hc, hb⟩ := pairs_in m3
  obtain ⟨ch, rfl⟩ := byte_of_u8 w0
  obtain ⟨kd, rfl⟩ := byte_of_u8 w1
  obtain ⟨n, rfl, hn⟩ := u64_nat w2
  obtain ⟨m, rfl, hm⟩ := u64_nat w3
  obtain ⟨id, rfl, hid⟩ := u64_nat w6
  obtain ⟨due, rfl, hdue⟩ := u64_nat w11
  obtain ⟨hops, rfl, hho⟩ := nat_of_u8 w12
  exact ⟨⟨ch, kd, n, m, x4, x5.data.toList, id, x7.data.toList, x8.data.toList, l, x10.data.toList, due, hops⟩, A, cc, ⟨hP, hc, hb, ⟨txt_big w5, txt_big w7, txt_big w8, txt_big w10⟩, ⟨hn, hm, hfi⟩⟩, by unfold reL; rw [ofL_toList, ofL_toList, ofL_toList, ofL_toList]⟩
theorem cell_reply : Tryz.prog.cellsOf 30 = 13 := by kernel_rfl
def Rp0 : Rp := ⟨Re.zero 0 0, none, 0⟩
set_option maxRecDepth 100000 in
theorem replies_open {H : Type} {enc : TypeId × Value → H} {W : World} {A : Option Addr} {len cap : Nat} {d : DataW H} {ps : List MemPlace}
    (h : DataW.Trod enc Tryz.prog W 0 (fun _ => true) true 22 (.slice A len cap) d ps) : ∃ l : List Rp, l.length = len ∧ RpIn W A l ∧ l.length ≤ 9223372036854775807 := by
  obtain ⟨fuel, hf⟩ := h
  obtain ⟨h1, h2, -, h4⟩ := racs_row Tryz.underlying22 cell_reply (by decide) hf
  have hP : ∀ i, ∃ p : Rp, i < len → ∃ b off, A = some ⟨b, off, none⟩ ∧ b < W.heap.size ∧ (∀ j v, (reL p.x p.A p.c)[j]? = some v → W.cell? ⟨b, off + i * 13 + j, none⟩ = some v) ∧ ReIn W p.x p.A p.c := fun i => by
    by_cases hi : i < len
    · obtain ⟨b, off, e, hb, cs, n, y, hcl, hat, ht⟩ := h4 i hi
      obtain ⟨x, Ax, cx, hin, rfl⟩ := reply_cells hcl ht
      refine ⟨⟨x, Ax, cx⟩, fun _ => ⟨b, off, e, hb, fun j v hv => ?_, hin⟩⟩
      have hj : j < 13 := by rw [← hcl]; exact (List.getElem?_eq_some_iff.1 hv).1
      have := hat j hj
      rw [racs_addr] at this
      rw [this]; exact hv
    · exact ⟨Rp0, fun h => absurd h hi⟩
  obtain ⟨f, hfn⟩ := Classical.axiomOfChoice hP
  refine ⟨(List.range len).map f, by simp, ⟨fun i hi => ?_, fun p hp => ?_⟩, by simp; omega⟩
  · have hil : i < len := by simpa using hi
    obtain ⟨b, off, e, hb, hc, -⟩ := hfn i hil
    have hg : ((List.range len).map f)[i] = f i := by simp
    rw [hg]
    exact ⟨b, off, e, hb, hc⟩
  · obtain ⟨i, hi, rfl⟩ := List.mem_map.1 hp
    obtain ⟨_, _, _, _, _, h5⟩ := hfn i (List.mem_range.1 hi)
    exact h5
end Go.Proofs.YtnjlhafhgfpfiaaGreatDoor
end
section
namespace Go.Proofs.YtnjlhafhgfpfiaaGreatDoor
open Go.ChangeShapes Go.WideShapes Go.ChangeAt Go.RowKit
theorem gTab : Tryz.prog.globalNamed "stairwell/crc.laid" = some 0 := by kernel_rfl
theorem gTabType : (Tryz.prog.globals[(0 : Nat)]?).map (·.type) = some 125 := by kernel_rfl
theorem cells16 : Tryz.prog.cellsOf 125 = 16 := by kernel_rfl
theorem cells32 : Tryz.prog.cellsOf 92 = 1 := by kernel_rfl
theorem tab_of {W : World} (h : laidMetH Tryz.prog [("stairwell/crc.laid", Rows.laid_stairwell_crc_laid)] W) : Tab W :=
  have t : Lib.TabIs Tryz.prog W "stairwell/crc.laid" .u32 Crc.table := Lib.tabIs_of_head (rest := []) gTab gTabType Tryz.underlying125 Tryz.underlying92 cells32 cells16 h
  fun i hi => t.cell gTab i (by simpa [Crc.table] using hi)
/-- the table's block, filled -/
def crcFilled : Obj → Obj
  | .cells _ t frozen => .cells #[.int .u32 0, .int .u32 498536548, .int .u32 997073096, .int .u32 651767980, .int .u32 1994146192, .int .u32 1802195444, .int .u32 1303535960, .int .u32 1342533948, .int .u32 3988292384, .int .u32 4027552580, .int .u32 3604390888, .int .u32 3412177804, .int .u32 2607071920, .int .u32 2262029012, .int .u32 2685067896, .int .u32 3183342108] t frozen
  | o => o
end Go.Proofs.YtnjlhafhgfpfiaaGreatDoor
end
