/-
 A part of the proof.
-/
import Derived.Test.YtaikigponkjkgaaGreatDoorXr50
import Derived.Lib.SmallJoins
import Derived.SizedLaws
section
namespace Go.Proofs.YtaikigponkjkgaaGreatDoor
open Go.ChangeShapes Go.WideShapes Go.Deep Go.RowKit
set_option maxRecDepth 100000 in
theorem queue_cells {H : Type} {enc : TypeId × Value → H} {W : World} {n : Nat} {c0 c1 c2 c3 : Value} {y : DataW H × List MemPlace}
  (h : DataW.trod enc Tryz.prog W 0 (fun _ => true) true n 45 [c0, c1, c2, c3] = some y) : ∃ q : Qu, q.most < 18446744073709551616 ∧ q.life < 18446744073709551616 ∧ c0 = .string (ofL q.name) ∧ c1 = .int .u64 (q.most : Int) ∧ c2 = .int .u64 (q.life : Int) ∧ c3 = .string (ofL q.dead) := by
 obtain ⟨ys, n', -, -, -, hyl, hft⟩ := DataW.trod_struct Tryz.underlying45 h
 match ys, hyl with
 | [y0, y1, y2, y3], _ =>
  have t0 : DataW.trod enc Tryz.prog W 0 (fun _ => true) true n' 9 (([c0, c1, c2, c3].drop 0).take (Tryz.prog.cellsOf 9)) = some y0 := hft 0 _ rfl
  have t1 : DataW.trod enc Tryz.prog W 0 (fun _ => true) true n' 41 (([c0, c1, c2, c3].drop 1).take (Tryz.prog.cellsOf 41)) = some y1 := hft 1 _ rfl
  have t2 : DataW.trod enc Tryz.prog W 0 (fun _ => true) true n' 41 (([c0, c1, c2, c3].drop 2).take (Tryz.prog.cellsOf 41)) = some y2 := hft 2 _ rfl
  have t3 : DataW.trod enc Tryz.prog W 0 (fun _ => true) true n' 9 (([c0, c1, c2, c3].drop 3).take (Tryz.prog.cellsOf 9)) = some y3 := hft 3 _ rfl
  rw [rc_str] at t0 t3
  rw [show Tryz.prog.cellsOf 41 = 1 by kernel_rfl] at t1 t2
  simp only [List.drop, List.take] at t0 t1 t2 t3
  obtain ⟨x0, e0, -, w0⟩ := DataW.trod_string Tryz.underlying9 t0
  obtain ⟨x1, e1, -, w1⟩ := DataW.trod_int Tryz.underlying41 t1
  obtain ⟨x2, e2, -, w2⟩ := DataW.trod_int Tryz.underlying41 t2
  obtain ⟨x3, e3, -, w3⟩ := DataW.trod_string Tryz.underlying9 t3
  simp only [List.cons.injEq, and_true] at e0 e1 e2 e3
  subst e0 e1 e2 e3
  obtain ⟨k, rfl, hk⟩ := u64_nat w1
  obtain ⟨m, rfl, hm⟩ := u64_nat w2
  exact ⟨⟨x0.data.toList, k, m, x3.data.toList⟩, hk, hm, by rw [ofL_toList], rfl, rfl, by rw [ofL_toList]⟩
set_option maxRecDepth 100000 in
theorem dbind_cells {H : Type} {enc : TypeId × Value → H} {W : World} {n : Nat} {c0 c1 c2 c3 c4 c5 : Value} {y : DataW H × List MemPlace}
  (h : DataW.trod enc Tryz.prog W 0 (fun _ => true) true n 48 [c0, c1, c2, c3, c4, c5] = some y) : ∃ (x : Bd) (A : Option Addr) (c : Nat), Prs W A x.want ∧ (∀ p ∈ x.want, Hd.Fits p) ∧ x.want.length ≤ c ∧ x.want.length ≤ 9223372036854775807 ∧ c0 = .string (ofL x.shop) ∧ c1 = .string (ofL x.to) ∧ c2 = .bool x.up ∧ c3 = .string (ofL x.key) ∧ c4 = .slice A x.want.length c ∧ c5 = .bool x.all := by
 obtain ⟨ys, n', -, -, -, hyl, hft⟩ := DataW.trod_struct Tryz.underlying48 h
 match ys, hyl with
 | [y0, y1, y2, y3, y4, y5], _ =>
  have t0 : DataW.trod enc Tryz.prog W 0 (fun _ => true) true n' 9 (([c0, c1, c2, c3, c4, c5].drop 0).take (Tryz.prog.cellsOf 9)) = some y0 := hft 0 _ rfl
  have t1 : DataW.trod enc Tryz.prog W 0 (fun _ => true) true n' 9 (([c0, c1, c2, c3, c4, c5].drop 1).take (Tryz.prog.cellsOf 9)) = some y1 := hft 1 _ rfl
  have t2 : DataW.trod enc Tryz.prog W 0 (fun _ => true) true n' 4 (([c0, c1, c2, c3, c4, c5].drop 2).take (Tryz.prog.cellsOf 4)) = some y2 := hft 2 _ rfl
  have t3 : DataW.trod enc Tryz.prog W 0 (fun _ => true) true n' 9 (([c0, c1, c2, c3, c4, c5].drop 3).take (Tryz.prog.cellsOf 9)) = some y3 := hft 3 _ rfl
  have t4 : DataW.trod enc Tryz.prog W 0 (fun _ => true) true n' 46 (([c0, c1, c2, c3, c4, c5].drop 4).take (Tryz.prog.cellsOf 46)) = some y4 := hft 4 _ rfl
  have t5 : DataW.trod enc Tryz.prog W 0 (fun _ => true) true n' 4 (([c0, c1, c2, c3, c4, c5].drop 5).take (Tryz.prog.cellsOf 4)) = some y5 := hft 5 _ rfl
  rw [rc_str] at t0 t1 t3
  rw [rc_bool] at t2 t5
  rw [rc_prs] at t4
  simp only [List.drop, List.take] at t0 t1 t2 t3 t4 t5
  obtain ⟨x0, e0, -, -⟩ := DataW.trod_string Tryz.underlying9 t0
  obtain ⟨x1, e1, -, -⟩ := DataW.trod_string Tryz.underlying9 t1
  obtain ⟨b2, e2, -⟩ := DataW.trod_bool Tryz.underlying4 t2
  obtain ⟨x3, e3, -, -⟩ := DataW.trod_string Tryz.underlying9 t3
  obtain ⟨A, len, c, e4⟩ := Joins.slice_form Tryz.underlying46 t4
  obtain ⟨b5, e5, -⟩ := DataW.trod_bool Tryz.underlying4 t5
  simp only [List.cons.injEq, and_true] at e0 e1 e2 e3 e4 e5
  subst e0 e1 e2 e3 e4 e5
  obtain ⟨l, rfl, hP, hfi, hc, hb⟩ := pairs_in t4
  exact ⟨⟨x0.data.toList, x1.data.toList, b2, x3.data.toList, l, b5⟩, A, c, hP, hfi, hc, hb, by rw [ofL_toList], by rw [ofL_toList], rfl, by rw [ofL_toList], rfl, rfl⟩
set_option maxRecDepth 100000 in
theorem lstOf29 {α : Type} {cs : List α} (h : cs.length = 29) : ∃ c0 c1 c2 c3 c4 c5 c6 c7 c8 c9 c10 c11 c12 c13 c14 c15 c16 c17 c18 c19 c20 c21 c22 c23 c24 c25 c26 c27 c28, cs = [c0, c1, c2, c3, c4, c5, c6, c7, c8, c9, c10, c11, c12, c13, c14, c15, c16, c17, c18, c19, c20, c21, c22, c23, c24, c25, c26, c27, c28] := by
 match cs, h with
 | [c0, c1, c2, c3, c4, c5, c6, c7, c8, c9, c10, c11, c12, c13, c14, c15, c16, c17, c18, c19, c20, c21, c22, c23, c24, c25, c26, c27, c28], _ => exact ⟨c0, c1, c2, c3, c4, c5, c6, c7, c8, c9, c10, c11, c12, c13, c14, c15, c16, c17, c18, c19, c20, c21, c22, c23, c24, c25, c26, c27, c28, rfl⟩
theorem lstOf13 {α : Type} {cs : List α} (h : cs.length = 13) : ∃ y0 y1 y2 y3 y4 y5 y6 y7 y8 y9 y10 y11 y12, cs = [y0, y1, y2, y3, y4, y5, y6, y7, y8, y9, y10, y11, y12] := by
 match cs, h with
 | [y0, y1, y2, y3, y4, y5, y6, y7, y8, y9, y10, y11, y12], _ => exact ⟨y0, y1, y2, y3, y4, y5, y6, y7, y8, y9, y10, y11, y12, rfl⟩
set_option maxRecDepth 100000 in
set_option maxHeartbeats 4000000 in
theorem deed_cells {H : Type} {enc : TypeId × Value → H} {W : World} {n : Nat} {cs : List Value} {y : DataW H × List MemPlace} (hcl : cs.length = 29)
  (h : DataW.trod enc Tryz.prog W 0 (fun _ => true) true n 52 cs = some y) : ∃ (x : De) (A : Option Addr) (c : Nat) (B : Option Addr) (d : Nat), DeIn W x A c B d ∧ cs = deL x A c B d := by
 obtain ⟨c0, c1, c2, c3, c4, c5, c6, c7, c8, c9, c10, c11, c12, c13, c14, c15, c16, c17, c18, c19, c20, c21, c22, c23, c24, c25, c26, c27, c28, rfl⟩ := lstOf29 hcl
 obtain ⟨ys, n', -, -, -, hyl, hft⟩ := DataW.trod_struct Tryz.underlying52 h
 obtain ⟨y0, y1, y2, y3, y4, y5, y6, y7, y8, y9, y10, y11, y12, rfl⟩ := lstOf13 hyl
 have t0 : DataW.trod enc Tryz.prog W 0 (fun _ => true) true n' 5 (([c0, c1, c2, c3, c4, c5, c6, c7, c8, c9, c10, c11, c12, c13, c14, c15, c16, c17, c18, c19, c20, c21, c22, c23, c24, c25, c26, c27, c28].drop 0).take (Tryz.prog.cellsOf 5)) = some y0 := hft 0 _ rfl
 rw [show Tryz.prog.cellsOf 5 = 1 by kernel_rfl] at t0
 simp only [List.drop, List.take] at t0
 have t1 : DataW.trod enc Tryz.prog W 0 (fun _ => true) true n' 41 (([c0, c1, c2, c3, c4, c5, c6, c7, c8, c9, c10, c11, c12, c13, c14, c15, c16, c17, c18, c19, c20, c21, c22, c23, c24, c25, c26, c27, c28].drop 1).take (Tryz.prog.cellsOf 41)) = some y1 := hft 1 _ rfl
 rw [show Tryz.prog.cellsOf 41 = 1 by kernel_rfl] at t1
 simp only [List.drop, List.take] at t1
 have t2 : DataW.trod enc Tryz.prog W 0 (fun _ => true) true n' 43 (([c0, c1, c2, c3, c4, c5, c6, c7, c8, c9, c10, c11, c12, c13, c14, c15, c16, c17, c18, c19, c20, c21, c22, c23, c24, c25, c26, c27, c28].drop 2).take (Tryz.prog.cellsOf 43)) = some y2 := hft 2 _ rfl
 rw [show Tryz.prog.cellsOf 43 = 3 by kernel_rfl] at t2
 simp only [List.drop, List.take] at t2
 have t3 : DataW.trod enc Tryz.prog W 0 (fun _ => true) true n' 45 (([c0, c1, c2, c3, c4, c5, c6, c7, c8, c9, c10, c11, c12, c13, c14, c15, c16, c17, c18, c19, c20, c21, c22, c23, c24, c25, c26, c27, c28].drop 5).take (Tryz.prog.cellsOf 45)) = some y3 := hft 3 _ rfl
 rw [show Tryz.prog.cellsOf 45 = 4 by kernel_rfl] at t3
 simp only [List.drop, List.take] at t3
 have t4 : DataW.trod enc Tryz.prog W 0 (fun _ => true) true n' 48 (([c0, c1, c2, c3, c4, c5, c6, c7, c8, c9, c10, c11, c12, c13, c14, c15, c16, c17, c18, c19, c20, c21, c22, c23, c24, c25, c26, c27, c28].drop 9).take (Tryz.prog.cellsOf 48)) = some y4 := hft 4 _ rfl
 rw [show Tryz.prog.cellsOf 48 = 6 by kernel_rfl] at t4
 simp only [List.drop, List.take] at t4
 have t5 : DataW.trod enc Tryz.prog W 0 (fun _ => true) true n' 9 (([c0, c1, c2, c3, c4, c5, c6, c7, c8, c9, c10, c11, c12, c13, c14, c15, c16, c17, c18, c19, c20, c21, c22, c23, c24, c25, c26, c27, c28].drop 15).take (Tryz.prog.cellsOf 9)) = some y5 := hft 5 _ rfl
 rw [show Tryz.prog.cellsOf 9 = 1 by kernel_rfl] at t5
 simp only [List.drop, List.take] at t5
 have t6 : DataW.trod enc Tryz.prog W 0 (fun _ => true) true n' 41 (([c0, c1, c2, c3, c4, c5, c6, c7, c8, c9, c10, c11, c12, c13, c14, c15, c16, c17, c18, c19, c20, c21, c22, c23, c24, c25, c26, c27, c28].drop 16).take (Tryz.prog.cellsOf 41)) = some y6 := hft 6 _ rfl
 rw [show Tryz.prog.cellsOf 41 = 1 by kernel_rfl] at t6
 simp only [List.drop, List.take] at t6
 have t7 : DataW.trod enc Tryz.prog W 0 (fun _ => true) true n' 5 (([c0, c1, c2, c3, c4, c5, c6, c7, c8, c9, c10, c11, c12, c13, c14, c15, c16, c17, c18, c19, c20, c21, c22, c23, c24, c25, c26, c27, c28].drop 17).take (Tryz.prog.cellsOf 5)) = some y7 := hft 7 _ rfl
 rw [show Tryz.prog.cellsOf 5 = 1 by kernel_rfl] at t7
 simp only [List.drop, List.take] at t7
 have t8 : DataW.trod enc Tryz.prog W 0 (fun _ => true) true n' 5 (([c0, c1, c2, c3, c4, c5, c6, c7, c8, c9, c10, c11, c12, c13, c14, c15, c16, c17, c18, c19, c20, c21, c22, c23, c24, c25, c26, c27, c28].drop 18).take (Tryz.prog.cellsOf 5)) = some y8 := hft 8 _ rfl
 rw [show Tryz.prog.cellsOf 5 = 1 by kernel_rfl] at t8
 simp only [List.drop, List.take] at t8
 have t9 : DataW.trod enc Tryz.prog W 0 (fun _ => true) true n' 5 (([c0, c1, c2, c3, c4, c5, c6, c7, c8, c9, c10, c11, c12, c13, c14, c15, c16, c17, c18, c19, c20, c21, c22, c23, c24, c25, c26, c27, c28].drop 19).take (Tryz.prog.cellsOf 5)) = some y9 := hft 9 _ rfl
 rw [show Tryz.prog.cellsOf 5 = 1 by kernel_rfl] at t9
 simp only [List.drop, List.take] at t9
 have t10 : DataW.trod enc Tryz.prog W 0 (fun _ => true) true n' 41 (([c0, c1, c2, c3, c4, c5, c6, c7, c8, c9, c10, c11, c12, c13, c14, c15, c16, c17, c18, c19, c20, c21, c22, c23, c24, c25, c26, c27, c28].drop 20).take (Tryz.prog.cellsOf 41)) = some y10 := hft 10 _ rfl
 rw [show Tryz.prog.cellsOf 41 = 1 by kernel_rfl] at t10
 simp only [List.drop, List.take] at t10
 have t11 : DataW.trod enc Tryz.prog W 0 (fun _ => true) true n' 50 (([c0, c1, c2, c3, c4, c5, c6, c7, c8, c9, c10, c11, c12, c13, c14, c15, c16, c17, c18, c19, c20, c21, c22, c23, c24, c25, c26, c27, c28].drop 21).take (Tryz.prog.cellsOf 50)) = some y11 := hft 11 _ rfl
 rw [show Tryz.prog.cellsOf 50 = 7 by kernel_rfl] at t11
 simp only [List.drop, List.take] at t11
 have t12 : DataW.trod enc Tryz.prog W 0 (fun _ => true) true n' 9 (([c0, c1, c2, c3, c4, c5, c6, c7, c8, c9, c10, c11, c12, c13, c14, c15, c16, c17, c18, c19, c20, c21, c22, c23, c24, c25, c26, c27, c28].drop 28).take (Tryz.prog.cellsOf 9)) = some y12 := hft 12 _ rfl
 rw [show Tryz.prog.cellsOf 9 = 1 by kernel_rfl] at t12
 simp only [List.drop, List.take] at t12
 obtain ⟨x0, e0, -, w0⟩ := DataW.trod_int Tryz.underlying5 t0
 obtain ⟨x1, e1, -, w1⟩ := DataW.trod_int Tryz.underlying41 t1
 obtain ⟨x5, e5, -, w5⟩ := DataW.trod_string Tryz.underlying9 t5
 obtain ⟨x6, e6, -, w6⟩ := DataW.trod_int Tryz.underlying41 t6
 obtain ⟨x7, e7, -, w7⟩ := DataW.trod_int Tryz.underlying5 t7
 obtain ⟨x8, e8, -, w8⟩ := DataW.trod_int Tryz.underlying5 t8
 obtain ⟨x9, e9, -, w9⟩ := DataW.trod_int Tryz.underlying5 t9
 obtain ⟨x10, e10, -, w10⟩ := DataW.trod_int Tryz.underlying41 t10
 obtain ⟨x12, e12, -, w12⟩ := DataW.trod_string Tryz.underlying9 t12
 obtain ⟨s, hs, rfl, rfl, rfl⟩ := shop_cells t2
 obtain ⟨q, hq1, hq2, rfl, rfl, rfl, rfl⟩ := queue_cells t3
 obtain ⟨b, A, c, hP, hfi, hc, hb, rfl, rfl, rfl, rfl, rfl, rfl⟩ := dbind_cells t4
 obtain ⟨m, B, d, hm, e11⟩ := mail_cells (by rfl) t11
 unfold maL at e11
 simp only [List.cons.injEq, and_true] at e0 e1 e5 e6 e7 e8 e9 e10 e12 e11
 obtain ⟨rfl, rfl, rfl, rfl, rfl, rfl, rfl⟩ := e11
 subst e0 e1 e5 e6 e7 e8 e9 e10 e12
 obtain ⟨k0, rfl, hk0⟩ := nat_of_u8 w0
 obtain ⟨k1, rfl, hk1⟩ := u64_nat w1
 obtain ⟨k6, rfl, hk6⟩ := u64_nat w6
 obtain ⟨k7, rfl, hk7⟩ := nat_of_u8 w7
 obtain ⟨k8, rfl, hk8⟩ := nat_of_u8 w8
 obtain ⟨k9, rfl, hk9⟩ := nat_of_u8 w9
 obtain ⟨k10, rfl, hk10⟩ := u64_nat w10
 exact ⟨⟨k0, k1, s, q, b, x5.data.toList, k6, k7, k8, k9, k10, m, x12.data.toList⟩, A, c, B, d, ⟨hP, hc, hb, hm.row, hm.cap, hm.big, ⟨hk0, hk1, hs, hq1, hq2, hfi, hk6, hk7, hk8, hk9, hk10, hm.fits⟩⟩, by unfold deL; rw [ofL_toList, ofL_toList]⟩
theorem dcs_len (l : List Dp) : (l.flatMap dpL).length = l.length * 29 := dps_len l
theorem cell_deed : Tryz.prog.cellsOf 52 = 29 := by kernel_rfl
set_option maxRecDepth 100000 in
theorem deeds_open {H : Type} {enc : TypeId × Value → H} {W : World} {A : Option Addr} {len cap : Nat} {d : DataW H} {ps : List MemPlace}
  (h : DataW.Trod enc Tryz.prog W 0 (fun _ => true) true 22 (.slice A len cap) d ps) : ∃ l : List Dp, l.length = len ∧ Din W A l ∧ l.length ≤ 9223372036854775807 := by
 obtain ⟨fuel, hf⟩ := h
 obtain ⟨h1, h2, -, h4⟩ := acs_row Tryz.underlying22 cell_deed (by decide) hf
 have hP : ∀ i, ∃ p : Dp, i < len → ∃ b off, A = some ⟨b, off, none⟩ ∧ b < W.heap.size ∧ (∀ j v, (dpL p)[j]? = some v → W.cell? ⟨b, off + i * 29 + j, none⟩ = some v) ∧ DeIn W p.x p.A p.c p.B p.d := fun i => by
  by_cases hi : i < len
  ·obtain ⟨b, off, e, hb, cs, n, y, hcl, hat, ht⟩ := h4 i hi
   obtain ⟨x, Ax, cx, Bx, ex, hin, rfl⟩ := deed_cells hcl ht
   refine ⟨⟨x, Ax, cx, Bx, ex⟩, fun _ => ⟨b, off, e, hb, fun j v hv => ?_, hin⟩⟩
   have hj : j < 29 := by rw [← hcl]; exact (List.getElem?_eq_some_iff.1 hv).1
   have := hat j hj
   rw [acs_addr] at this
   rw [this]; exact hv
  ·exact ⟨Dp0, fun h => absurd h hi⟩
 obtain ⟨f, hfn⟩ := Classical.axiomOfChoice hP
 refine ⟨(List.range len).map f, by simp, ⟨⟨fun i u hu => ?_⟩, fun p hp => ?_⟩, by simp; omega⟩
 ·have hil := (List.getElem?_eq_some_iff.1 hu).1
  rw [dcs_len] at hil
  have hi7 : i / 29 < ((List.range len).map f).length := by omega
  have hq : i / 29 < len := by simpa using hi7
  obtain ⟨b, off, e, hb, hc, -⟩ := hfn (i / 29) hq
  have hat := Rw.flat_get dpL 29 (fun _ => rfl) (by decide) ((List.range len).map f) (i / 29) (i % 29) hi7 (show i % 29 < 29 by omega)
  rw [show i / 29 * 29 + i % 29 = i by omega, hu] at hat
  have hg : ((List.range len).map f)[i / 29] = f (i / 29) := by simp
  rw [hg] at hat
  have := hc (i % 29) u hat.symm
  rw [Nat.add_assoc, show i / 29 * 29 + i % 29 = i by omega] at this
  exact ⟨b, off, e, hb, this⟩
 ·obtain ⟨i, hi, rfl⟩ := List.mem_map.1 hp
  obtain ⟨_, _, _, _, _, h5⟩ := hfn i (List.mem_range.1 hi)
  exact h5
theorem bytes_deed : Tryz.prog.bytesOf 52 = 344 := by kernel_rfl
set_option maxRecDepth 100000 in
theorem deeds_reach {H : Type} {enc : TypeId × Value → H} {W : World} {A : Option Addr} {len cap : Nat} {d : DataW H} {ps : List MemPlace}
  (h : DataW.Trod enc Tryz.prog W 0 (fun _ => true) true 22 (.slice A len cap) d ps) {ts : List TypeId} {ds : List (DataW H)} (hz : (DataW.weightsEach Tryz.prog ts ds).all (· ≤ reachBytes) = true) {j : Nat} (ht : ts[j]? = some 22) (hd : ds[j]? = some d) : len ≤ 409120605673 := by
 obtain ⟨fuel, hf⟩ := h
 rcases open_slice Tryz.underlying22 hf with ⟨hcs, hx⟩ | ⟨a, l, c, m, n, D, Q, hcs, _, hl, hm, hmm, hx, hi⟩
 ·simp [Value.cells] at hcs
  obtain ⟨rfl, rfl, rfl⟩ := hcs
  omega
 ·simp [Value.cells] at hcs
  obtain ⟨rfl, rfl, rfl⟩ := hcs
  simp only [Prod.mk.injEq] at hx
  obtain ⟨rfl, rfl⟩ := hx
  have := sized_slice hz ht hd Tryz.underlying22
  rw [bytes_deed] at this
  simp only [List.length_map, List.length_range, reachBytes] at this
  omega
end Go.Proofs.YtaikigponkjkgaaGreatDoor
end
