/-
  WHAT STAGE 3's ROWS SAY OF GO's LIBRARY's VARIABLES; a world for the witness.
  A POLICY that comes in, opened.
-/
import Derived.Test.YtokljdaofjgihaaGreatDoorParB
import Derived.Test.YtokljdaofjgihaaGreatDoorOpenBase
import Derived.LaidSub
import Derived.HandedShaped
import Derived.Shelf.Vars
import Derived.LaidLaws
import Derived.Test.YtokljdaofjgihaaGreatDoorLawA
import Derived.Deep.Slices
import Derived.Deep.Fields
import Derived.ChangeSame
namespace Go.Proofs.YtokljdaofjgihaaGreatDoor
open Go.ChangeShapes Go.WideShapes Go.ChangeAt Go.RowKit
def rngS : ByteArray := ⟨#[118, 97, 108, 117, 101, 32, 111, 117, 116, 32, 111, 102, 32, 114, 97, 110, 103, 101]⟩
def synS : ByteArray := ⟨#[105, 110, 118, 97, 108, 105, 100, 32, 115, 121, 110, 116, 97, 120]⟩
noncomputable def low : Nat := (World.holding Tryz.prog default ⟨#[], #[], []⟩).heap.size
/-- a table's block, filled -/
def filledP (cs : Array Value) : Obj → Obj
  | .cells _ t frozen => .cells cs t frozen
  | o => o
/-- A WORLD FOR THE WITNESS: the settled one, the listed variables holding what their initialisers lay. -/
noncomputable def laidWorld (os : Os) : World :=
  { World.holding Tryz.prog os ⟨#[.cells #[.string rngS] 208, .cells #[.string synS] 208], #[], []⟩ with heap := ((((((((World.holding Tryz.prog os ⟨#[.cells #[.string rngS] 208, .cells #[.string synS] 208], #[], []⟩).heap.modify 2 (filledP #[.int .u8 0, .int .u8 1, .int .u8 28, .int .u8 2, .int .u8 29, .int .u8 14, .int .u8 24, .int .u8 3, .int .u8 30, .int .u8 22, .int .u8 20, .int .u8 15, .int .u8 25, .int .u8 17, .int .u8 4, .int .u8 8, .int .u8 31, .int .u8 27, .int .u8 13, .int .u8 23, .int .u8 21, .int .u8 19, .int .u8 16, .int .u8 7, .int .u8 26, .int .u8 12, .int .u8 18, .int .u8 6, .int .u8 11, .int .u8 5, .int .u8 10, .int .u8 9])).modify 3 (filledP #[.int .u8 0, .int .u8 1, .int .u8 56, .int .u8 2, .int .u8 57, .int .u8 49, .int .u8 28, .int .u8 3, .int .u8 61, .int .u8 58, .int .u8 42, .int .u8 50, .int .u8 38, .int .u8 29, .int .u8 17, .int .u8 4, .int .u8 62, .int .u8 47, .int .u8 59, .int .u8 36, .int .u8 45, .int .u8 43, .int .u8 51, .int .u8 22, .int .u8 53, .int .u8 39, .int .u8 33, .int .u8 30, .int .u8 24, .int .u8 18, .int .u8 12, .int .u8 5, .int .u8 63, .int .u8 55, .int .u8 48, .int .u8 27, .int .u8 60, .int .u8 41, .int .u8 37, .int .u8 16, .int .u8 46, .int .u8 35, .int .u8 44, .int .u8 21, .int .u8 52, .int .u8 32, .int .u8 23, .int .u8 11, .int .u8 54, .int .u8 26, .int .u8 40, .int .u8 15, .int .u8 34, .int .u8 20, .int .u8 31, .int .u8 10, .int .u8 25, .int .u8 14, .int .u8 19, .int .u8 9, .int .u8 13, .int .u8 8, .int .u8 7, .int .u8 6])).modify 0 (filledP #[.int .u64 1, .int .u64 10, .int .u64 100, .int .u64 1000, .int .u64 10000, .int .u64 100000, .int .u64 1000000, .int .u64 10000000, .int .u64 100000000, .int .u64 1000000000, .int .u64 10000000000, .int .u64 100000000000, .int .u64 1000000000000, .int .u64 10000000000000, .int .u64 100000000000000, .int .u64 1000000000000000, .int .u64 10000000000000000, .int .u64 100000000000000000, .int .u64 1000000000000000000, .int .u64 10000000000000000000])).modify 7 (filledP #[.int .u8 128, .int .u8 191, .int .u8 160, .int .u8 191, .int .u8 128, .int .u8 159, .int .u8 144, .int .u8 191, .int .u8 128, .int .u8 143, .int .u8 0, .int .u8 0, .int .u8 0, .int .u8 0, .int .u8 0, .int .u8 0, .int .u8 0, .int .u8 0, .int .u8 0, .int .u8 0, .int .u8 0, .int .u8 0, .int .u8 0, .int .u8 0, .int .u8 0, .int .u8 0, .int .u8 0, .int .u8 0, .int .u8 0, .int .u8 0, .int .u8 0, .int .u8 0])).modify 6 (filledP (Pinned.utf8FirstZ.map fun (n : Nat) => Value.int .u8 n).toArray)).modify 5 (filledP #[.iface 206 (.pointer (some ⟨low, 0, none⟩))])).modify 4 (filledP #[.iface 206 (.pointer (some ⟨low + 1, 0, none⟩))])) }
set_option maxRecDepth 100000 in
theorem len_of {W : World} (h : W.ShapedOpen Tryz.prog) : Len W :=
  cell_of_shapedOpen_int (zero := #[.int .i64 0]) (t := 3) h (of_decide_eq_true (by kernel_rfl)) (by kernel_rfl) rfl (by kernel_rfl) (by kernel_rfl) Tryz.underlying3
theorem gRng : Tryz.prog.globalNamed "strconv.ErrRange" = some 5 := by kernel_rfl
theorem gRngType : (Tryz.prog.globals[(5 : Nat)]?).map (·.type) = some 128 := by kernel_rfl
theorem rng_of {W : World} (h : laidMetH Tryz.prog Rows.policyFlowsRow.laid W) : ∃ ev, W.cell? ⟨5, 0, none⟩ = some ev ∧ (ev = .nilIface ∨ ∃ te pe, ev = .iface te pe) := by
  have h1 := laidMetH.filter (fun x => x.1 == "strconv.ErrRange") h
  have h2 : laidMet Tryz.prog [("strconv.ErrRange", Rows.laid_strconv_ErrRange)] W := h1
  obtain ⟨ps, ⟨g0, t0, cs0, f0, p0, q0, hg0, ht0, hv0, hd0, hq, e0⟩, hnd, hrows⟩ := h2
  obtain rfl := Option.some.inj (gRng.symm.trans hg0)
  obtain rfl := Option.some.inj (gRngType.symm.trans ht0)
  obtain ⟨l0⟩ := cs0
  obtain ⟨f1, u, v, rfl, -, -⟩ := iface_of_trod Tryz.underlying128 hd0
  exact ⟨_, by simpa using World.var?_cell gRng hv0 0, .inr ⟨u, v, rfl⟩⟩
theorem env_of {W : World} (h : laidMetH Tryz.prog Rows.policyFlowsRow.laid W) (hO : W.ShapedOpen Tryz.prog) : Env W := ⟨len_of hO, rng_of h⟩
end Go.Proofs.YtokljdaofjgihaaGreatDoor
namespace Go.Proofs.YtokljdaofjgihaaGreatDoor
open Go.ChangeShapes Go.WideShapes Go.Deep Go.RowKit

theorem arr5 {α : Type} {cs : Array α} (h : cs.size = 5) : ∃ c0 c1 c2 c3 c4, cs = #[c0, c1, c2, c3, c4] := by
  obtain ⟨l⟩ := cs
  match l, h with
  | [c0, c1, c2, c3, c4], _ => exact ⟨c0, c1, c2, c3, c4, rfl⟩
theorem lst5 {α : Type} {cs : List α} (h : cs.length = 5) : ∃ c0 c1 c2 c3 c4, cs = [c0, c1, c2, c3, c4] := by
  match cs, h with
  | [c0, c1, c2, c3, c4], _ => exact ⟨c0, c1, c2, c3, c4, rfl⟩
theorem lst4 {α : Type} {cs : List α} (h : cs.length = 4) : ∃ c0 c1 c2 c3, cs = [c0, c1, c2, c3] := by
  match cs, h with
  | [c0, c1, c2, c3], _ => exact ⟨c0, c1, c2, c3, rfl⟩
theorem lst3 {α : Type} {cs : List α} (h : cs.length = 3) : ∃ c0 c1 c2, cs = [c0, c1, c2] := by
  match cs, h with
  | [c0, c1, c2], _ => exact ⟨c0, c1, c2, rfl⟩
theorem lst2 {α : Type} {cs : List α} (h : cs.length = 2) : ∃ c0 c1, cs = [c0, c1] := by
  match cs, h with
  | [c0, c1], _ => exact ⟨c0, c1, rfl⟩
theorem nat_of_u64 {n : Int} (h : (Lit.int .u64 n).wf = true) : ∃ k : Nat, n = (k : Int) ∧ k < 18446744073709551616 := by
  have hx : 0 ≤ n ∧ n ≤ 18446744073709551615 := by simpa [Lit.wf, IntKind.min, IntKind.max, IntKind.signed, IntKind.bits] using h
  exact ⟨n.toNat, by omega, by omega⟩
theorem addr_at {b off : Nat} {k j : Nat} : ((⟨b, off, none⟩ : Addr).add k).add j = ⟨b, off + k + j, none⟩ := by
  unfold Addr.add
  (repeat' split) <;> simp_all <;> omega
theorem cell_string : Tryz.prog.cellsOf 9 = 1 := by kernel_rfl
theorem cell_lab : Tryz.prog.cellsOf 70 = 2 := by kernel_rfl
theorem cell_int : Tryz.prog.cellsOf 3 = 1 := by kernel_rfl
theorem cell_u64 : Tryz.prog.cellsOf 54 = 1 := by kernel_rfl
theorem cell_u8 : Tryz.prog.cellsOf 5 = 1 := by kernel_rfl
theorem cell_u32 : Tryz.prog.cellsOf 68 = 1 := by kernel_rfl
theorem cell_plc : Tryz.prog.cellsOf 72 = 5 := by kernel_rfl
theorem cell_grn : Tryz.prog.cellsOf 75 = 3 := by kernel_rfl
theorem name_len {s : ByteArray} (h : s.size ≤ maxLen) : s.data.toList.length ≤ 9223372036854775807 := by
  have hz := ofL_size s.data.toList
  rw [ofL_toList] at hz
  unfold maxLen at h
  omega
set_option maxHeartbeats 2000000 in
theorem place_cells {H : Type} {enc : TypeId × Value → H} {W : World} {n : Nat} {b off : Nat} {k : Nat} {cs : List Value} {y : DataW H × List MemPlace} (hcl : cs.length = 5) (hat : ∀ j, j < 5 → W.cell? (((⟨b, off, none⟩ : Addr).add k).add j) = cs[j]?)
    (ht : DataW.trod enc Tryz.prog W 0 (fun _ => true) true n 72 cs = some y) : ∃ x : Pl.Plc, x.set < 4294967296 ∧ x.name.length ≤ 9223372036854775807 ∧ PlcAt W b (off + k) x := by
  obtain ⟨c0, c1, c2, c3, c4, rfl⟩ := lst5 hcl
  obtain ⟨ys, n', -, -, -, hyl, hf⟩ := DataW.trod_struct Tryz.underlying72 ht
  obtain ⟨y0, y1, y2, y3, rfl⟩ := lst4 hyl
  have t0 : DataW.trod enc Tryz.prog W 0 (fun _ => true) true n' 9 (([c0, c1, c2, c3, c4].drop 0).take (Tryz.prog.cellsOf 9)) = some y0 := hf 0 _ rfl
  have t1 : DataW.trod enc Tryz.prog W 0 (fun _ => true) true n' 70 (([c0, c1, c2, c3, c4].drop 1).take (Tryz.prog.cellsOf 70)) = some y1 := hf 1 _ rfl
  have t2 : DataW.trod enc Tryz.prog W 0 (fun _ => true) true n' 3 (([c0, c1, c2, c3, c4].drop 3).take (Tryz.prog.cellsOf 3)) = some y2 := hf 2 _ rfl
  have t3 : DataW.trod enc Tryz.prog W 0 (fun _ => true) true n' 54 (([c0, c1, c2, c3, c4].drop 4).take (Tryz.prog.cellsOf 54)) = some y3 := hf 3 _ rfl
  rw [cell_string] at t0
  rw [cell_lab] at t1
  rw [cell_int] at t2
  rw [cell_u64] at t3
  simp only [List.drop, List.take] at t0 t1 t2 t3
  obtain ⟨s, e0, -, w0⟩ := DataW.trod_string Tryz.underlying9 t0
  obtain ⟨x2, e2, -, w2⟩ := DataW.trod_int Tryz.underlying3 t2
  obtain ⟨x3, e3, -, w3⟩ := DataW.trod_int Tryz.underlying54 t3
  obtain ⟨zs, n2, -, -, -, hzl, hg⟩ := DataW.trod_struct Tryz.underlying70 t1
  obtain ⟨z0, z1, rfl⟩ := lst2 hzl
  have u0 : DataW.trod enc Tryz.prog W 0 (fun _ => true) true n2 5 (([c1, c2].drop 0).take (Tryz.prog.cellsOf 5)) = some z0 := hg 0 _ rfl
  have u1 : DataW.trod enc Tryz.prog W 0 (fun _ => true) true n2 68 (([c1, c2].drop 1).take (Tryz.prog.cellsOf 68)) = some z1 := hg 1 _ rfl
  rw [cell_u8] at u0
  rw [cell_u32] at u1
  simp only [List.drop, List.take] at u0 u1
  obtain ⟨xl, f0, -, v0⟩ := DataW.trod_int Tryz.underlying5 u0
  obtain ⟨xs, f1, -, v1⟩ := DataW.trod_int Tryz.underlying68 u1
  simp only [List.cons.injEq, and_true] at e0 e2 e3 f0 f1
  subst e0 e2 e3 f0 f1
  obtain ⟨kl, rfl, -⟩ := nat_of_u8 v0
  obtain ⟨ks, rfl, hks⟩ := nat_of_u32 v1
  obtain ⟨kb, rfl, -⟩ := nat_of_u64 w3
  have q0 := hat 0 (by omega)
  have q1 := hat 1 (by omega)
  have q2 := hat 2 (by omega)
  have q3 := hat 3 (by omega)
  have q4 := hat 4 (by omega)
  rw [addr_at] at q0 q1 q2 q3 q4
  exact ⟨⟨s.data.toList, kl, ks, x2, kb⟩, hks, name_len w0, ⟨by rw [ofL_toList]; exact q0, q1, q2, q3, q4⟩⟩
set_option maxHeartbeats 2000000 in
theorem grant_cells {H : Type} {enc : TypeId × Value → H} {W : World} {n : Nat} {b off : Nat} {k : Nat} {cs : List Value} {y : DataW H × List MemPlace} (hcl : cs.length = 3) (hat : ∀ j, j < 3 → W.cell? (((⟨b, off, none⟩ : Addr).add k).add j) = cs[j]?)
    (ht : DataW.trod enc Tryz.prog W 0 (fun _ => true) true n 75 cs = some y) : ∃ x : Pl.Grn, GrnAt W b (off + k) x := by
  obtain ⟨c0, c1, c2, rfl⟩ := lst3 hcl
  obtain ⟨ys, n', -, -, -, hyl, hf⟩ := DataW.trod_struct Tryz.underlying75 ht
  obtain ⟨y0, y1, y2, rfl⟩ := lst3 hyl
  have t0 : DataW.trod enc Tryz.prog W 0 (fun _ => true) true n' 3 (([c0, c1, c2].drop 0).take (Tryz.prog.cellsOf 3)) = some y0 := hf 0 _ rfl
  have t1 : DataW.trod enc Tryz.prog W 0 (fun _ => true) true n' 3 (([c0, c1, c2].drop 1).take (Tryz.prog.cellsOf 3)) = some y1 := hf 1 _ rfl
  have t2 : DataW.trod enc Tryz.prog W 0 (fun _ => true) true n' 3 (([c0, c1, c2].drop 2).take (Tryz.prog.cellsOf 3)) = some y2 := hf 2 _ rfl
  rw [cell_int] at t0 t1 t2
  simp only [List.drop, List.take] at t0 t1 t2
  obtain ⟨x0, e0, -, w0⟩ := DataW.trod_int Tryz.underlying3 t0
  obtain ⟨x1, e1, -, w1⟩ := DataW.trod_int Tryz.underlying3 t1
  obtain ⟨x2, e2, -, w2⟩ := DataW.trod_int Tryz.underlying3 t2
  simp only [List.cons.injEq, and_true] at e0 e1 e2
  subst e0 e1 e2
  have q0 := hat 0 (by omega)
  have q1 := hat 1 (by omega)
  have q2 := hat 2 (by omega)
  rw [addr_at] at q0 q1 q2
  exact ⟨⟨x0, x1, x2⟩, ⟨q0, q1, q2⟩⟩
/-- a row that came in: nil, or so many elements at one address -/
theorem row_open {H : Type} {enc : TypeId × Value → H} {P : Program} {W : World} {t e : TypeId} {C : Nat} {A : Option Addr} {len cap : Nat} {fuel : Nat} {y : DataW H × List MemPlace} (ht : P.underlying t = some (.slice e)) (hC : P.cellsOf e = C) (h0 : 0 < C)
    (h : DataW.trod enc P W 0 (fun _ => true) true fuel t [.slice A len cap] = some y) :
    len ≤ cap ∧ cap ≤ 9223372036854775807 ∧ (A = none → cap = 0) ∧ ∀ i, i < len → ∃ b off, A = some ⟨b, off, none⟩ ∧ b < W.heap.size ∧ ∃ cs n y, cs.length = C ∧ (∀ j, j < C → W.cell? (((⟨b, off, none⟩ : Addr).add (i * C)).add j) = cs[j]?) ∧ DataW.trod enc P W 0 (fun _ => true) true n e cs = some y := by
  rcases open_slice ht h with ⟨hcs, _⟩ | ⟨a, l, c, m, n, D, Q, hcs, _, hl, hm, hmm, _, hi⟩
  · simp at hcs
    obtain ⟨rfl, rfl, rfl⟩ := hcs
    exact ⟨Nat.le_refl _, by omega, fun _ => rfl, fun i hi => absurd hi (by omega)⟩
  · simp at hcs
    obtain ⟨rfl, rfl, rfl⟩ := hcs
    have hm' : m = cap := by simpa using hmm
    subst hm'
    rw [hC] at hi
    refine ⟨hl, by unfold maxLen at hm; omega, (fun e => by cases e), fun i hil => ?_⟩
    obtain ⟨cs', hc, ht'⟩ := hi i (by omega)
    obtain ⟨_, hcl, hat⟩ := World.cells?_some hc
    obtain ⟨b, off, spot⟩ := a
    have hsp : spot = none := by
      obtain ⟨cs0, hc0, -⟩ := hi 0 (by omega)
      obtain ⟨_, hcl0, hat0⟩ := World.cells?_some hc0
      have h1 : W.cell? (((⟨b, off, spot⟩ : Addr).add (0 * C)).add 0) = some (cs0[0]'(by omega)) := by rw [hat0 0 h0, List.getElem?_eq_getElem (by omega)]
      have := World.cell?_spot h1
      simpa [Addr.add] using this
    subst hsp
    have h1 : W.cell? (((⟨b, off, none⟩ : Addr).add (i * C)).add 0) = some (cs'[0]'(by omega)) := by rw [hat 0 h0, List.getElem?_eq_getElem (by omega)]
    have hb : b < W.heap.size := by
      have := World.block_lt_of_cell? W _ h1
      revert this
      unfold Addr.add
      (repeat' split) <;> intro h <;> simpa using h
    exact ⟨b, off, rfl, hb, cs', n, _, hcl, hat, ht'⟩
set_option maxRecDepth 100000 in
set_option maxHeartbeats 2000000 in
theorem pol_open {H : Type} {enc : TypeId × Value → H} {W : World} {base : Nat} {v : Value} {d : DataW H} {ps : List MemPlace} (hv : Value.okWide Tryz.prog W .any base 26 v)
    (h : DataW.Trod enc Tryz.prog W 0 (fun _ => true) true 26 v d ps) : ∃ (p : Pl.Pol) (pa : Option Addr) (pc : Nat) (sa : Option Addr) (sc : Nat) (ga : Option Addr) (gc : Nat), PolIn W p pa pc sa sc ga gc ∧ (sa = none → sc = 0) ∧ v = polV p pa pc sa sc ga gc := by
  obtain ⟨cs, rfl, hsz⟩ := okWide_struct Tryz.underlying26 hv
  obtain ⟨c0, c1, c2, c3, c4, rfl⟩ := arr5 (hsz.trans (show Tryz.prog.cellsOf 26 = 5 by kernel_rfl))
  obtain ⟨fuel, hf⟩ := h
  obtain ⟨ys, n', -, -, -, hyl, hf⟩ := DataW.trod_struct Tryz.underlying26 hf
  obtain ⟨y0, y1, y2, y3, y4, rfl⟩ := lst5 hyl
  have t0 : DataW.trod enc Tryz.prog W 0 (fun _ => true) true n' 3 (([c0, c1, c2, c3, c4].drop 0).take (Tryz.prog.cellsOf 3)) = some y0 := hf 0 _ rfl
  have t1 : DataW.trod enc Tryz.prog W 0 (fun _ => true) true n' 3 (([c0, c1, c2, c3, c4].drop 1).take (Tryz.prog.cellsOf 3)) = some y1 := hf 1 _ rfl
  have t2 : DataW.trod enc Tryz.prog W 0 (fun _ => true) true n' 22 (([c0, c1, c2, c3, c4].drop 2).take (Tryz.prog.cellsOf 22)) = some y2 := hf 2 _ rfl
  have t3 : DataW.trod enc Tryz.prog W 0 (fun _ => true) true n' 23 (([c0, c1, c2, c3, c4].drop 3).take (Tryz.prog.cellsOf 23)) = some y3 := hf 3 _ rfl
  have t4 : DataW.trod enc Tryz.prog W 0 (fun _ => true) true n' 24 (([c0, c1, c2, c3, c4].drop 4).take (Tryz.prog.cellsOf 24)) = some y4 := hf 4 _ rfl
  rw [cell_int] at t0 t1
  rw [show Tryz.prog.cellsOf 22 = 1 by kernel_rfl] at t2
  rw [show Tryz.prog.cellsOf 23 = 1 by kernel_rfl] at t3
  rw [show Tryz.prog.cellsOf 24 = 1 by kernel_rfl] at t4
  simp only [List.drop, List.take] at t0 t1 t2 t3 t4
  obtain ⟨x0, e0, -, w0⟩ := DataW.trod_int Tryz.underlying3 t0
  obtain ⟨x1, e1, -, w1⟩ := DataW.trod_int Tryz.underlying3 t1
  obtain ⟨pa, pl, pc, e2⟩ := Joins.slice_form Tryz.underlying22 t2
  obtain ⟨sa, sl, sc, e3⟩ := Joins.slice_form Tryz.underlying23 t3
  obtain ⟨ga, gl, gc, e4⟩ := Joins.slice_form Tryz.underlying24 t4
  simp only [List.cons.injEq, and_true] at e0 e1 e2 e3 e4
  subst e0 e1 e2 e3 e4
  obtain ⟨a1, a2, a3, a4⟩ := row_open Tryz.underlying22 cell_plc (by decide) t2
  obtain ⟨b1, b2, b3, b4⟩ := row_open Tryz.underlying23 cell_int (by decide) t3
  obtain ⟨g1, g2, g3, g4⟩ := row_open Tryz.underlying24 cell_grn (by decide) t4
  have hP : ∀ i, ∃ x : Pl.Plc, i < pl → ∃ b off, pa = some ⟨b, off, none⟩ ∧ b < W.heap.size ∧ x.set < 4294967296 ∧ x.name.length ≤ 9223372036854775807 ∧ PlcAt W b (off + i * 5) x := fun i => by
    by_cases hi : i < pl
    · obtain ⟨b, off, e, hb, cs, n, y, hcl, hat, ht⟩ := a4 i hi
      obtain ⟨x, h1, h2, h3⟩ := place_cells hcl hat ht
      exact ⟨x, fun _ => ⟨b, off, e, hb, h1, h2, h3⟩⟩
    · exact ⟨Pl.Plc.zero, fun h => absurd h hi⟩
  have hS : ∀ i, ∃ x : Int, i < sl → ∃ b off, sa = some ⟨b, off, none⟩ ∧ b < W.heap.size ∧ W.cell? ⟨b, off + i, none⟩ = some (.int .i64 x) := fun i => by
    by_cases hi : i < sl
    · obtain ⟨b, off, e, hb, cs, n, y, hcl, hat, ht⟩ := b4 i hi
      obtain ⟨x, hx, -, -⟩ := DataW.trod_int Tryz.underlying3 ht
      subst hx
      have q := hat 0 (by omega)
      rw [addr_at] at q
      exact ⟨x, fun _ => ⟨b, off, e, hb, by simpa using q⟩⟩
    · exact ⟨0, fun h => absurd h hi⟩
  have hG : ∀ i, ∃ x : Pl.Grn, i < gl → ∃ b off, ga = some ⟨b, off, none⟩ ∧ b < W.heap.size ∧ GrnAt W b (off + i * 3) x := fun i => by
    by_cases hi : i < gl
    · obtain ⟨b, off, e, hb, cs, n, y, hcl, hat, ht⟩ := g4 i hi
      obtain ⟨x, h1⟩ := grant_cells hcl hat ht
      exact ⟨x, fun _ => ⟨b, off, e, hb, h1⟩⟩
    · exact ⟨Pl.Grn.zero, fun h => absurd h hi⟩
  obtain ⟨fp, hfp⟩ := Classical.axiomOfChoice hP
  obtain ⟨fs, hfs⟩ := Classical.axiomOfChoice hS
  obtain ⟨fg, hfg⟩ := Classical.axiomOfChoice hG
  have ep : ∀ i, i < pl → Pl.plc ((List.range pl).map fp) i = fp i := fun i hi => by unfold Pl.plc; simp [List.getD_eq_getElem?_getD, hi]
  have es : ∀ i, i < sl → ((List.range sl).map fs).getD i 0 = fs i := fun i hi => by simp [List.getD_eq_getElem?_getD, hi]
  have eg : ∀ i, i < gl → Pl.grn ((List.range gl).map fg) i = fg i := fun i hi => by unfold Pl.grn; simp [List.getD_eq_getElem?_getD, hi]
  refine ⟨⟨x0, x1, (List.range pl).map fp, (List.range sl).map fs, (List.range gl).map fg⟩, pa, pc, sa, sc, ga, gc, ⟨fun i hi => ?_, ⟨fun i hi => ?_⟩, ⟨fun i hi => ?_⟩, by simp; omega, by simp; omega, by simp; omega, by simpa using a1, by simpa using b1, by simpa using g1⟩, b3, by simp [polV]⟩
  · have hi' : i < pl := by simpa using hi
    simp only
    rw [ep i hi']
    exact hfp i hi'
  · have hi' : i < sl := by simpa using hi
    rw [es i hi']
    exact hfs i hi'
  · have hi' : i < gl := by simpa using hi
    rw [eg i hi']
    exact hfg i hi'
end Go.Proofs.YtokljdaofjgihaaGreatDoor
