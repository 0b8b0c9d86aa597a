/-
  WHAT COMES IN, opened: numbers and bytes. What all rows ask of the program alike.
  WHAT STAGE 3's ROWS SAY OF GO's LIBRARY's VARIABLES; a world for the witness.
  A POLICY that comes in, opened.
  PLAIN: a policy's text, and that it is read as it was. No program is spoken of here.
  A POLICY's TEXT, walked: digits; a line.
  A POLICY's TEXT, line by line (plain).
  THE LAW ON WHAT A POLICY IS: what a policy that may be gives its text.
  AN UNSIGNED NUMBER's DIGITS: Go's library, walked.
  A POLICY's TEXT: what the program's Print wants: its lines, as Go's library answers.
  THE DOCUMENT's PRINT OF A POLICY, walked.
  THE PROGRAM's PRINT OF A POLICY, walked.
  THE LAW ON WHAT A POLICY IS, walked.
  A POLICY that comes in, opened: its Bases fit; the library's table of powers.
-/
import Derived.Test.YtokljdaofjgihaaGreatDoorRows
import Derived.WalkKit
import Derived.ProofKit
import Derived.OpenShut
import Derived.Deep.DeepHandedRow
import Derived.Laws.IdiomArrays
import Derived.Lib.SmallJoins
import Derived.Test.YtokljdaofjgihaaGreatDoorParB
import Derived.LaidSub
import Derived.HandedShaped
import Derived.Shelf.Vars
import Derived.LaidLaws
import Derived.Test.YtokljdaofjgihaaGreatDoorLawA
import Derived.Deep.Slices
import Derived.Deep.Fields
import Derived.ChangeSame
import Derived.Test.YtokljdaofjgihaaGreatDoorParMath
import Derived.Test.YtokljdaofjgihaaGreatDoorTextAD
import Derived.Test.YtokljdaofjgihaaGreatDoorShelfFmt
import Derived.Test.YtokljdaofjgihaaGreatDoorRdP
import Derived.Test.YtokljdaofjgihaaGreatDoorWordR
import Derived.Test.YtokljdaofjgihaaGreatDoorShelfItoa
import Derived.Lib.AppendIntMem
import Derived.Test.YtokljdaofjgihaaGreatDoorRdLine
import Derived.BigQuiet
import Derived.Deep.QuietTactic
import Derived.Deep.RegionHeld3
import Derived.Deep.DeepCutAuto
import Derived.Test.YtokljdaofjgihaaGreatDoorLawE
namespace Go.Proofs.YtokljdaofjgihaaGreatDoor
open Go.ChangeShapes Go.WideShapes Go.ChangeAt Go.RowKit
theorem own : ownKnob Tryz.prog.godebug = none := by kernel_rfl
theorem laidOut : laidOutB Tryz.prog = true := by kernel_rfl
theorem nat_of_u32 {n : Int} (h : (Lit.int .u32 n).wf = true) : ∃ k : Nat, n = (k : Int) ∧ k < 4294967296 := by
  have hx : 0 ≤ n ∧ n ≤ 4294967295 := by simpa [Lit.wf, IntKind.min, IntKind.max, IntKind.signed, IntKind.bits] using h
  exact ⟨n.toNat, by omega, by omega⟩
theorem nat_of_u8 {n : Int} (h : (Lit.int .u8 n).wf = true) : ∃ k : Nat, n = (k : Int) ∧ k < 256 := by
  have hx : 0 ≤ n ∧ n ≤ 255 := by simpa [Lit.wf, IntKind.min, IntKind.max, IntKind.signed, IntKind.bits] using h
  exact ⟨n.toNat, by omega, by omega⟩
theorem nat_of_u16 {n : Int} (h : (Lit.int .u16 n).wf = true) : ∃ k : Nat, n = (k : Int) ∧ k < 65536 := by
  have hx : 0 ≤ n ∧ n ≤ 65535 := by simpa [Lit.wf, IntKind.min, IntKind.max, IntKind.signed, IntKind.bits] using h
  exact ⟨n.toNat, by omega, by omega⟩
theorem byte_of_u8 {n : Int} (h : (Lit.int .u8 n).wf = true) : ∃ b : UInt8, n = ((b.toNat : Nat) : Int) := by
  have hx : 0 ≤ n ∧ n ≤ 255 := by simpa [Lit.wf, IntKind.min, IntKind.max, IntKind.signed, IntKind.bits] using h
  refine ⟨UInt8.ofNat n.toNat, ?_⟩
  simp only [UInt8.toNat_ofNat']
  omega
end Go.Proofs.YtokljdaofjgihaaGreatDoor
namespace Go.Proofs.YtokljdaofjgihaaGreatDoor
open Go.ChangeShapes Go.WideShapes Go.ChangeAt Go.RowKit
def rngS : ByteArray := ⟨#[118, 97, 108, 117, 101, 32, 111, 117, 116, 32, 111, 102, 32, 114, 97, 110, 103, 101]⟩
def synS : ByteArray := ⟨#[105, 110, 118, 97, 108, 105, 100, 32, 115, 121, 110, 116, 97, 120]⟩
noncomputable def low : Nat := (World.holding Tryz.prog default ⟨#[], #[], []⟩).heap.size
/-- a table's block, filled -/
def filledP (cs : Array Value) : Obj → Obj
  | .cells _ t frozen => .cells cs t frozen
  | o => o
/-- A WORLD FOR THE WITNESS: the settled one, the listed variables holding what their initialisers lay. -/
noncomputable def laidWorld (os : Os) : World :=
  { World.holding Tryz.prog os ⟨#[.cells #[.string rngS] 208, .cells #[.string synS] 208], #[], []⟩ with heap := ((((((((World.holding Tryz.prog os ⟨#[.cells #[.string rngS] 208, .cells #[.string synS] 208], #[], []⟩).heap.modify 2 (filledP #[.int .u8 0, .int .u8 1, .int .u8 28, .int .u8 2, .int .u8 29, .int .u8 14, .int .u8 24, .int .u8 3, .int .u8 30, .int .u8 22, .int .u8 20, .int .u8 15, .int .u8 25, .int .u8 17, .int .u8 4, .int .u8 8, .int .u8 31, .int .u8 27, .int .u8 13, .int .u8 23, .int .u8 21, .int .u8 19, .int .u8 16, .int .u8 7, .int .u8 26, .int .u8 12, .int .u8 18, .int .u8 6, .int .u8 11, .int .u8 5, .int .u8 10, .int .u8 9])).modify 3 (filledP #[.int .u8 0, .int .u8 1, .int .u8 56, .int .u8 2, .int .u8 57, .int .u8 49, .int .u8 28, .int .u8 3, .int .u8 61, .int .u8 58, .int .u8 42, .int .u8 50, .int .u8 38, .int .u8 29, .int .u8 17, .int .u8 4, .int .u8 62, .int .u8 47, .int .u8 59, .int .u8 36, .int .u8 45, .int .u8 43, .int .u8 51, .int .u8 22, .int .u8 53, .int .u8 39, .int .u8 33, .int .u8 30, .int .u8 24, .int .u8 18, .int .u8 12, .int .u8 5, .int .u8 63, .int .u8 55, .int .u8 48, .int .u8 27, .int .u8 60, .int .u8 41, .int .u8 37, .int .u8 16, .int .u8 46, .int .u8 35, .int .u8 44, .int .u8 21, .int .u8 52, .int .u8 32, .int .u8 23, .int .u8 11, .int .u8 54, .int .u8 26, .int .u8 40, .int .u8 15, .int .u8 34, .int .u8 20, .int .u8 31, .int .u8 10, .int .u8 25, .int .u8 14, .int .u8 19, .int .u8 9, .int .u8 13, .int .u8 8, .int .u8 7, .int .u8 6])).modify 0 (filledP #[.int .u64 1, .int .u64 10, .int .u64 100, .int .u64 1000, .int .u64 10000, .int .u64 100000, .int .u64 1000000, .int .u64 10000000, .int .u64 100000000, .int .u64 1000000000, .int .u64 10000000000, .int .u64 100000000000, .int .u64 1000000000000, .int .u64 10000000000000, .int .u64 100000000000000, .int .u64 1000000000000000, .int .u64 10000000000000000, .int .u64 100000000000000000, .int .u64 1000000000000000000, .int .u64 10000000000000000000])).modify 7 (filledP #[.int .u8 128, .int .u8 191, .int .u8 160, .int .u8 191, .int .u8 128, .int .u8 159, .int .u8 144, .int .u8 191, .int .u8 128, .int .u8 143, .int .u8 0, .int .u8 0, .int .u8 0, .int .u8 0, .int .u8 0, .int .u8 0, .int .u8 0, .int .u8 0, .int .u8 0, .int .u8 0, .int .u8 0, .int .u8 0, .int .u8 0, .int .u8 0, .int .u8 0, .int .u8 0, .int .u8 0, .int .u8 0, .int .u8 0, .int .u8 0, .int .u8 0, .int .u8 0])).modify 6 (filledP (Pinned.utf8FirstZ.map fun (n : Nat) => Value.int .u8 n).toArray)).modify 5 (filledP #[.iface 206 (.pointer (some ⟨low, 0, none⟩))])).modify 4 (filledP #[.iface 206 (.pointer (some ⟨low + 1, 0, none⟩))])) }
set_option maxRecDepth 100000 in
theorem len_of {W : World} (h : W.ShapedOpen Tryz.prog) : Len W :=
  cell_of_shapedOpen_int (zero := #[.int .i64 0]) (t := 3) h (of_decide_eq_true (by kernel_rfl)) (by kernel_rfl) rfl (by kernel_rfl) (by kernel_rfl) Tryz.underlying3
theorem gRng : Tryz.prog.globalNamed "strconv.ErrRange" = some 5 := by kernel_rfl
theorem gRngType : (Tryz.prog.globals[(5 : Nat)]?).map (·.type) = some 128 := by kernel_rfl
theorem rng_of {W : World} (h : laidMetH Tryz.prog Rows.policyFlowsRow.laid W) : ∃ ev, W.cell? ⟨5, 0, none⟩ = some ev ∧ (ev = .nilIface ∨ ∃ te pe, ev = .iface te pe) := by
  have h1 := laidMetH.filter (fun x => x.1 == "strconv.ErrRange") h
  have h2 : laidMet Tryz.prog [("strconv.ErrRange", Rows.laid_strconv_ErrRange)] W := h1
  obtain ⟨ps, ⟨g0, t0, cs0, f0, p0, q0, hg0, ht0, hv0, hd0, hq, e0⟩, hnd, hrows⟩ := h2
  obtain rfl := Option.some.inj (gRng.symm.trans hg0)
  obtain rfl := Option.some.inj (gRngType.symm.trans ht0)
  obtain ⟨l0⟩ := cs0
  obtain ⟨f1, u, v, rfl, -, -⟩ := iface_of_trod Tryz.underlying128 hd0
  exact ⟨_, by simpa using World.var?_cell gRng hv0 0, .inr ⟨u, v, rfl⟩⟩
theorem env_of {W : World} (h : laidMetH Tryz.prog Rows.policyFlowsRow.laid W) (hO : W.ShapedOpen Tryz.prog) : Env W := ⟨len_of hO, rng_of h⟩
end Go.Proofs.YtokljdaofjgihaaGreatDoor
namespace Go.Proofs.YtokljdaofjgihaaGreatDoor
open Go.ChangeShapes Go.WideShapes Go.Deep Go.RowKit

theorem arr5 {α : Type} {cs : Array α} (h : cs.size = 5) : ∃ c0 c1 c2 c3 c4, cs = #[c0, c1, c2, c3, c4] := by
  obtain ⟨l⟩ := cs
  match l, h with
  | [c0, c1, c2, c3, c4], _ => exact ⟨c0, c1, c2, c3, c4, rfl⟩
theorem lst5 {α : Type} {cs : List α} (h : cs.length = 5) : ∃ c0 c1 c2 c3 c4, cs = [c0, c1, c2, c3, c4] := by
  match cs, h with
  | [c0, c1, c2, c3, c4], _ => exact ⟨c0, c1, c2, c3, c4, rfl⟩
theorem lst4 {α : Type} {cs : List α} (h : cs.length = 4) : ∃ c0 c1 c2 c3, cs = [c0, c1, c2, c3] := by
  match cs, h with
  | [c0, c1, c2, c3], _ => exact ⟨c0, c1, c2, c3, rfl⟩
theorem lst3 {α : Type} {cs : List α} (h : cs.length = 3) : ∃ c0 c1 c2, cs = [c0, c1, c2] := by
  match cs, h with
  | [c0, c1, c2], _ => exact ⟨c0, c1, c2, rfl⟩
theorem lst2 {α : Type} {cs : List α} (h : cs.length = 2) : ∃ c0 c1, cs = [c0, c1] := by
  match cs, h with
  | [c0, c1], _ => exact ⟨c0, c1, rfl⟩
theorem nat_of_u64 {n : Int} (h : (Lit.int .u64 n).wf = true) : ∃ k : Nat, n = (k : Int) ∧ k < 18446744073709551616 := by
  have hx : 0 ≤ n ∧ n ≤ 18446744073709551615 := by simpa [Lit.wf, IntKind.min, IntKind.max, IntKind.signed, IntKind.bits] using h
  exact ⟨n.toNat, by omega, by omega⟩
theorem addr_at {b off : Nat} {k j : Nat} : ((⟨b, off, none⟩ : Addr).add k).add j = ⟨b, off + k + j, none⟩ := by
  unfold Addr.add
  (repeat' split) <;> simp_all <;> omega
theorem cell_string : Tryz.prog.cellsOf 9 = 1 := by kernel_rfl
theorem cell_lab : Tryz.prog.cellsOf 70 = 2 := by kernel_rfl
theorem cell_int : Tryz.prog.cellsOf 3 = 1 := by kernel_rfl
theorem cell_u64 : Tryz.prog.cellsOf 54 = 1 := by kernel_rfl
theorem cell_u8 : Tryz.prog.cellsOf 5 = 1 := by kernel_rfl
theorem cell_u32 : Tryz.prog.cellsOf 68 = 1 := by kernel_rfl
theorem cell_plc : Tryz.prog.cellsOf 72 = 5 := by kernel_rfl
theorem cell_grn : Tryz.prog.cellsOf 75 = 3 := by kernel_rfl
theorem name_len {s : ByteArray} (h : s.size ≤ maxLen) : s.data.toList.length ≤ 9223372036854775807 := by
  have hz := ofL_size s.data.toList
  rw [ofL_toList] at hz
  unfold maxLen at h
  omega
set_option maxHeartbeats 2000000 in
theorem place_cells {H : Type} {enc : TypeId × Value → H} {W : World} {n : Nat} {b off : Nat} {k : Nat} {cs : List Value} {y : DataW H × List MemPlace} (hcl : cs.length = 5) (hat : ∀ j, j < 5 → W.cell? (((⟨b, off, none⟩ : Addr).add k).add j) = cs[j]?)
    (ht : DataW.trod enc Tryz.prog W 0 (fun _ => true) true n 72 cs = some y) : ∃ x : Pl.Plc, x.set < 4294967296 ∧ x.name.length ≤ 9223372036854775807 ∧ PlcAt W b (off + k) x := by
  obtain ⟨c0, c1, c2, c3, c4, rfl⟩ := lst5 hcl
  obtain ⟨ys, n', -, -, -, hyl, hf⟩ := DataW.trod_struct Tryz.underlying72 ht
  obtain ⟨y0, y1, y2, y3, rfl⟩ := lst4 hyl
  have t0 : DataW.trod enc Tryz.prog W 0 (fun _ => true) true n' 9 (([c0, c1, c2, c3, c4].drop 0).take (Tryz.prog.cellsOf 9)) = some y0 := hf 0 _ rfl
  have t1 : DataW.trod enc Tryz.prog W 0 (fun _ => true) true n' 70 (([c0, c1, c2, c3, c4].drop 1).take (Tryz.prog.cellsOf 70)) = some y1 := hf 1 _ rfl
  have t2 : DataW.trod enc Tryz.prog W 0 (fun _ => true) true n' 3 (([c0, c1, c2, c3, c4].drop 3).take (Tryz.prog.cellsOf 3)) = some y2 := hf 2 _ rfl
  have t3 : DataW.trod enc Tryz.prog W 0 (fun _ => true) true n' 54 (([c0, c1, c2, c3, c4].drop 4).take (Tryz.prog.cellsOf 54)) = some y3 := hf 3 _ rfl
  rw [cell_string] at t0
  rw [cell_lab] at t1
  rw [cell_int] at t2
  rw [cell_u64] at t3
  simp only [List.drop, List.take] at t0 t1 t2 t3
  obtain ⟨s, e0, -, w0⟩ := DataW.trod_string Tryz.underlying9 t0
  obtain ⟨x2, e2, -, w2⟩ := DataW.trod_int Tryz.underlying3 t2
  obtain ⟨x3, e3, -, w3⟩ := DataW.trod_int Tryz.underlying54 t3
  obtain ⟨zs, n2, -, -, -, hzl, hg⟩ := DataW.trod_struct Tryz.underlying70 t1
  obtain ⟨z0, z1, rfl⟩ := lst2 hzl
  have u0 : DataW.trod enc Tryz.prog W 0 (fun _ => true) true n2 5 (([c1, c2].drop 0).take (Tryz.prog.cellsOf 5)) = some z0 := hg 0 _ rfl
  have u1 : DataW.trod enc Tryz.prog W 0 (fun _ => true) true n2 68 (([c1, c2].drop 1).take (Tryz.prog.cellsOf 68)) = some z1 := hg 1 _ rfl
  rw [cell_u8] at u0
  rw [cell_u32] at u1
  simp only [List.drop, List.take] at u0 u1
  obtain ⟨xl, f0, -, v0⟩ := DataW.trod_int Tryz.underlying5 u0
  obtain ⟨xs, f1, -, v1⟩ := DataW.trod_int Tryz.underlying68 u1
  simp only [List.cons.injEq, and_true] at e0 e2 e3 f0 f1
  subst e0 e2 e3 f0 f1
  obtain ⟨kl, rfl, -⟩ := nat_of_u8 v0
  obtain ⟨ks, rfl, hks⟩ := nat_of_u32 v1
  obtain ⟨kb, rfl, -⟩ := nat_of_u64 w3
  have q0 := hat 0 (by omega)
  have q1 := hat 1 (by omega)
  have q2 := hat 2 (by omega)
  have q3 := hat 3 (by omega)
  have q4 := hat 4 (by omega)
  rw [addr_at] at q0 q1 q2 q3 q4
  exact ⟨⟨s.data.toList, kl, ks, x2, kb⟩, hks, name_len w0, ⟨by rw [ofL_toList]; exact q0, q1, q2, q3, q4⟩⟩
set_option maxHeartbeats 2000000 in
theorem grant_cells {H : Type} {enc : TypeId × Value → H} {W : World} {n : Nat} {b off : Nat} {k : Nat} {cs : List Value} {y : DataW H × List MemPlace} (hcl : cs.length = 3) (hat : ∀ j, j < 3 → W.cell? (((⟨b, off, none⟩ : Addr).add k).add j) = cs[j]?)
    (ht : DataW.trod enc Tryz.prog W 0 (fun _ => true) true n 75 cs = some y) : ∃ x : Pl.Grn, GrnAt W b (off + k) x := by
  obtain ⟨c0, c1, c2, rfl⟩ := lst3 hcl
  obtain ⟨ys, n', -, -, -, hyl, hf⟩ := DataW.trod_struct Tryz.underlying75 ht
  obtain ⟨y0, y1, y2, rfl⟩ := lst3 hyl
  have t0 : DataW.trod enc Tryz.prog W 0 (fun _ => true) true n' 3 (([c0, c1, c2].drop 0).take (Tryz.prog.cellsOf 3)) = some y0 := hf 0 _ rfl
  have t1 : DataW.trod enc Tryz.prog W 0 (fun _ => true) true n' 3 (([c0, c1, c2].drop 1).take (Tryz.prog.cellsOf 3)) = some y1 := hf 1 _ rfl
  have t2 : DataW.trod enc Tryz.prog W 0 (fun _ => true) true n' 3 (([c0, c1, c2].drop 2).take (Tryz.prog.cellsOf 3)) = some y2 := hf 2 _ rfl
  rw [cell_int] at t0 t1 t2
  simp only [List.drop, List.take] at t0 t1 t2
  obtain ⟨x0, e0, -, w0⟩ := DataW.trod_int Tryz.underlying3 t0
  obtain ⟨x1, e1, -, w1⟩ := DataW.trod_int Tryz.underlying3 t1
  obtain ⟨x2, e2, -, w2⟩ := DataW.trod_int Tryz.underlying3 t2
  simp only [List.cons.injEq, and_true] at e0 e1 e2
  subst e0 e1 e2
  have q0 := hat 0 (by omega)
  have q1 := hat 1 (by omega)
  have q2 := hat 2 (by omega)
  rw [addr_at] at q0 q1 q2
  exact ⟨⟨x0, x1, x2⟩, ⟨q0, q1, q2⟩⟩
/-- a row that came in: nil, or so many elements at one address -/
theorem row_open {H : Type} {enc : TypeId × Value → H} {P : Program} {W : World} {t e : TypeId} {C : Nat} {A : Option Addr} {len cap : Nat} {fuel : Nat} {y : DataW H × List MemPlace} (ht : P.underlying t = some (.slice e)) (hC : P.cellsOf e = C) (h0 : 0 < C)
    (h : DataW.trod enc P W 0 (fun _ => true) true fuel t [.slice A len cap] = some y) :
    len ≤ cap ∧ cap ≤ 9223372036854775807 ∧ (A = none → cap = 0) ∧ ∀ i, i < len → ∃ b off, A = some ⟨b, off, none⟩ ∧ b < W.heap.size ∧ ∃ cs n y, cs.length = C ∧ (∀ j, j < C → W.cell? (((⟨b, off, none⟩ : Addr).add (i * C)).add j) = cs[j]?) ∧ DataW.trod enc P W 0 (fun _ => true) true n e cs = some y := by
  rcases open_slice ht h with ⟨hcs, _⟩ | ⟨a, l, c, m, n, D, Q, hcs, _, hl, hm, hmm, _, hi⟩
  · simp at hcs
    obtain ⟨rfl, rfl, rfl⟩ := hcs
    exact ⟨Nat.le_refl _, by omega, fun _ => rfl, fun i hi => absurd hi (by omega)⟩
  · simp at hcs
    obtain ⟨rfl, rfl, rfl⟩ := hcs
    have hm' : m = cap := by simpa using hmm
    subst hm'
    rw [hC] at hi
    refine ⟨hl, by unfold maxLen at hm; omega, (fun e => by cases e), fun i hil => ?_⟩
    obtain ⟨cs', hc, ht'⟩ := hi i (by omega)
    obtain ⟨_, hcl, hat⟩ := World.cells?_some hc
    obtain ⟨b, off, spot⟩ := a
    have hsp : spot = none := by
      obtain ⟨cs0, hc0, -⟩ := hi 0 (by omega)
      obtain ⟨_, hcl0, hat0⟩ := World.cells?_some hc0
      have h1 : W.cell? (((⟨b, off, spot⟩ : Addr).add (0 * C)).add 0) = some (cs0[0]'(by omega)) := by rw [hat0 0 h0, List.getElem?_eq_getElem (by omega)]
      have := World.cell?_spot h1
      simpa [Addr.add] using this
    subst hsp
    have h1 : W.cell? (((⟨b, off, none⟩ : Addr).add (i * C)).add 0) = some (cs'[0]'(by omega)) := by rw [hat 0 h0, List.getElem?_eq_getElem (by omega)]
    have hb : b < W.heap.size := by
      have := World.block_lt_of_cell? W _ h1
      revert this
      unfold Addr.add
      (repeat' split) <;> intro h <;> simpa using h
    exact ⟨b, off, rfl, hb, cs', n, _, hcl, hat, ht'⟩
set_option maxRecDepth 100000 in
set_option maxHeartbeats 2000000 in
theorem pol_open {H : Type} {enc : TypeId × Value → H} {W : World} {base : Nat} {v : Value} {d : DataW H} {ps : List MemPlace} (hv : Value.okWide Tryz.prog W .any base 26 v)
    (h : DataW.Trod enc Tryz.prog W 0 (fun _ => true) true 26 v d ps) : ∃ (p : Pl.Pol) (pa : Option Addr) (pc : Nat) (sa : Option Addr) (sc : Nat) (ga : Option Addr) (gc : Nat), PolIn W p pa pc sa sc ga gc ∧ (sa = none → sc = 0) ∧ v = polV p pa pc sa sc ga gc := by
  obtain ⟨cs, rfl, hsz⟩ := okWide_struct Tryz.underlying26 hv
  obtain ⟨c0, c1, c2, c3, c4, rfl⟩ := arr5 (hsz.trans (show Tryz.prog.cellsOf 26 = 5 by kernel_rfl))
  obtain ⟨fuel, hf⟩ := h
  obtain ⟨ys, n', -, -, -, hyl, hf⟩ := DataW.trod_struct Tryz.underlying26 hf
  obtain ⟨y0, y1, y2, y3, y4, rfl⟩ := lst5 hyl
  have t0 : DataW.trod enc Tryz.prog W 0 (fun _ => true) true n' 3 (([c0, c1, c2, c3, c4].drop 0).take (Tryz.prog.cellsOf 3)) = some y0 := hf 0 _ rfl
  have t1 : DataW.trod enc Tryz.prog W 0 (fun _ => true) true n' 3 (([c0, c1, c2, c3, c4].drop 1).take (Tryz.prog.cellsOf 3)) = some y1 := hf 1 _ rfl
  have t2 : DataW.trod enc Tryz.prog W 0 (fun _ => true) true n' 22 (([c0, c1, c2, c3, c4].drop 2).take (Tryz.prog.cellsOf 22)) = some y2 := hf 2 _ rfl
  have t3 : DataW.trod enc Tryz.prog W 0 (fun _ => true) true n' 23 (([c0, c1, c2, c3, c4].drop 3).take (Tryz.prog.cellsOf 23)) = some y3 := hf 3 _ rfl
  have t4 : DataW.trod enc Tryz.prog W 0 (fun _ => true) true n' 24 (([c0, c1, c2, c3, c4].drop 4).take (Tryz.prog.cellsOf 24)) = some y4 := hf 4 _ rfl
  rw [cell_int] at t0 t1
  rw [show Tryz.prog.cellsOf 22 = 1 by kernel_rfl] at t2
  rw [show Tryz.prog.cellsOf 23 = 1 by kernel_rfl] at t3
  rw [show Tryz.prog.cellsOf 24 = 1 by kernel_rfl] at t4
  simp only [List.drop, List.take] at t0 t1 t2 t3 t4
  obtain ⟨x0, e0, -, w0⟩ := DataW.trod_int Tryz.underlying3 t0
  obtain ⟨x1, e1, -, w1⟩ := DataW.trod_int Tryz.underlying3 t1
  obtain ⟨pa, pl, pc, e2⟩ := Joins.slice_form Tryz.underlying22 t2
  obtain ⟨sa, sl, sc, e3⟩ := Joins.slice_form Tryz.underlying23 t3
  obtain ⟨ga, gl, gc, e4⟩ := Joins.slice_form Tryz.underlying24 t4
  simp only [List.cons.injEq, and_true] at e0 e1 e2 e3 e4
  subst e0 e1 e2 e3 e4
  obtain ⟨a1, a2, a3, a4⟩ := row_open Tryz.underlying22 cell_plc (by decide) t2
  obtain ⟨b1, b2, b3, b4⟩ := row_open Tryz.underlying23 cell_int (by decide) t3
  obtain ⟨g1, g2, g3, g4⟩ := row_open Tryz.underlying24 cell_grn (by decide) t4
  have hP : ∀ i, ∃ x : Pl.Plc, i < pl → ∃ b off, pa = some ⟨b, off, none⟩ ∧ b < W.heap.size ∧ x.set < 4294967296 ∧ x.name.length ≤ 9223372036854775807 ∧ PlcAt W b (off + i * 5) x := fun i => by
    by_cases hi : i < pl
    · obtain ⟨b, off, e, hb, cs, n, y, hcl, hat, ht⟩ := a4 i hi
      obtain ⟨x, h1, h2, h3⟩ := place_cells hcl hat ht
      exact ⟨x, fun _ => ⟨b, off, e, hb, h1, h2, h3⟩⟩
    · exact ⟨Pl.Plc.zero, fun h => absurd h hi⟩
  have hS : ∀ i, ∃ x : Int, i < sl → ∃ b off, sa = some ⟨b, off, none⟩ ∧ b < W.heap.size ∧ W.cell? ⟨b, off + i, none⟩ = some (.int .i64 x) := fun i => by
    by_cases hi : i < sl
    · obtain ⟨b, off, e, hb, cs, n, y, hcl, hat, ht⟩ := b4 i hi
      obtain ⟨x, hx, -, -⟩ := DataW.trod_int Tryz.underlying3 ht
      subst hx
      have q := hat 0 (by omega)
      rw [addr_at] at q
      exact ⟨x, fun _ => ⟨b, off, e, hb, by simpa using q⟩⟩
    · exact ⟨0, fun h => absurd h hi⟩
  have hG : ∀ i, ∃ x : Pl.Grn, i < gl → ∃ b off, ga = some ⟨b, off, none⟩ ∧ b < W.heap.size ∧ GrnAt W b (off + i * 3) x := fun i => by
    by_cases hi : i < gl
    · obtain ⟨b, off, e, hb, cs, n, y, hcl, hat, ht⟩ := g4 i hi
      obtain ⟨x, h1⟩ := grant_cells hcl hat ht
      exact ⟨x, fun _ => ⟨b, off, e, hb, h1⟩⟩
    · exact ⟨Pl.Grn.zero, fun h => absurd h hi⟩
  obtain ⟨fp, hfp⟩ := Classical.axiomOfChoice hP
  obtain ⟨fs, hfs⟩ := Classical.axiomOfChoice hS
  obtain ⟨fg, hfg⟩ := Classical.axiomOfChoice hG
  have ep : ∀ i, i < pl → Pl.plc ((List.range pl).map fp) i = fp i := fun i hi => by unfold Pl.plc; simp [List.getD_eq_getElem?_getD, hi]
  have es : ∀ i, i < sl → ((List.range sl).map fs).getD i 0 = fs i := fun i hi => by simp [List.getD_eq_getElem?_getD, hi]
  have eg : ∀ i, i < gl → Pl.grn ((List.range gl).map fg) i = fg i := fun i hi => by unfold Pl.grn; simp [List.getD_eq_getElem?_getD, hi]
  refine ⟨⟨x0, x1, (List.range pl).map fp, (List.range sl).map fs, (List.range gl).map fg⟩, pa, pc, sa, sc, ga, gc, ⟨fun i hi => ?_, ⟨fun i hi => ?_⟩, ⟨fun i hi => ?_⟩, by simp; omega, by simp; omega, by simp; omega, by simpa using a1, by simpa using b1, by simpa using g1⟩, b3, by simp [polV]⟩
  · have hi' : i < pl := by simpa using hi
    simp only
    rw [ep i hi']
    exact hfp i hi'
  · have hi' : i < sl := by simpa using hi
    rw [es i hi']
    exact hfs i hi'
  · have hi' : i < gl := by simpa using hi
    rw [eg i hi']
    exact hfg i hi'
end Go.Proofs.YtokljdaofjgihaaGreatDoor
namespace Go.Proofs.YtokljdaofjgihaaGreatDoor.Pl
open Lib (decDigits)

def joinS : List (List UInt8) → List UInt8
  | [] => []
  | [x] => x
  | x :: y :: r => x ++ 32 :: joinS (y :: r)
/-- a word that a line can hold -/
def okW (x : List UInt8) : Prop := x ≠ [] ∧ ∀ b ∈ x, b ≠ 32 ∧ b ≠ 10
theorem wds_app {x m : List UInt8} (h : okW x) : wdsFrom [] (x ++ 32 :: m) = x :: wdsFrom [] m := by
  rw [wds_skip x.length [] (x ++ 32 :: m) (by simp) (fun j hj => ?_)]
  · rw [List.take_left, List.drop_left, List.nil_append, wds_blank (by cases x <;> simp_all [okW])]
  · rw [List.getD_eq_getElem?_getD, List.getElem?_append_left hj, List.getElem?_eq_getElem hj]
    exact (h.2 _ (List.getElem_mem hj)).1
theorem wds_last {x : List UInt8} (h : okW x) : wdsFrom [] x = [x] := by
  rw [wds_skip x.length [] x (Nat.le_refl _) (fun j hj => ?_)]
  · rw [List.take_length, List.drop_length, List.nil_append]
    unfold wdsFrom
    rw [if_neg (by cases x <;> simp_all [okW])]
  · rw [List.getD_eq_getElem?_getD, List.getElem?_eq_getElem hj]
    exact (h.2 _ (List.getElem_mem hj)).1
theorem wds_join : ∀ (ws : List (List UInt8)), ws ≠ [] → (∀ x ∈ ws, okW x) → wds (joinS ws) = ws
  | [], h, _ => absurd rfl h
  | [x], _, h => wds_last (h x (by simp))
  | x :: y :: r, _, h => by
    have := wds_join (y :: r) (by simp) (fun z hz => h z (by simp [hz]))
    unfold wds at this ⊢
    rw [joinS, wds_app (h x (by simp)), this]
theorem join_no10 : ∀ (ws : List (List UInt8)), (∀ x ∈ ws, okW x) → (10 : UInt8) ∉ joinS ws
  | [], _ => by simp [joinS]
  | [x], h => fun e => ((h x (by simp)).2 _ e).2 rfl
  | x :: y :: r, h => by
    have ih := join_no10 (y :: r) (fun z hz => h z (by simp [hz]))
    rw [joinS]
    intro e
    rcases List.mem_append.1 e with e | e
    · exact ((h x (by simp)).2 _ e).2 rfl
    · rcases List.mem_cons.1 e with e | e
      · cases e
      · exact ih e
def textOf (B : List (List (List UInt8))) : List UInt8 := B.flatMap (fun ws => joinS ws ++ [10])
theorem lines_text : ∀ (B : List (List (List UInt8))), (∀ ws ∈ B, ∀ x ∈ ws, okW x) → lines (textOf B) = B.map joinS ++ [[]]
  | [], _ => rfl
  | ws :: B, h => by
    have ih := lines_text B (fun w hw => h w (by simp [hw]))
    have e : textOf (ws :: B) = joinS ws ++ 10 :: textOf B := by simp [textOf]
    rw [e, lines_app (join_no10 ws (h ws (by simp))), ih]
    rfl
/-! ### numbers -/
theorem isNum_dec (u : Nat) : isNum (decDigits u) = true := by
  unfold isNum
  have h1 : (decDigits u).isEmpty = false := by have := Lat.dec_ne u; cases h : decDigits u <;> simp_all
  have h2 : (decDigits u).all Lat.dig = true := List.all_eq_true.2 (fun b hb => Lat.dec_dig u b hb)
  rw [h1, h2]
  by_cases h3 : (decDigits u).head? = some 48
  · have h0 := Lat.dec_head u h3
    subst h0
    simp [Lat.dec_zero]
  · have : ((decDigits u).head? == some 48) = false := by simpa using h3
    simp [this]
theorem num_dec {m u : Nat} (h : u ≤ m) : num m (decDigits u) = (u, 0) := by
  rw [num_ok (isNum_dec u) (by rw [Lat.dec_val]; omega), Lat.dec_val]
theorem ok_dec (u : Nat) : okW (decDigits u) := ⟨Lat.dec_ne u, fun b hb => by
  have := Lat.dig_bounds (Lat.dec_dig u b hb)
  constructor <;> (intro e; subst e; simp at this)⟩
/-! ### what a policy tells -/
def bodyP (x : Plc) : List (List UInt8) := [wLabel, x.name, Lat.textL x.lv x.set, decDigits x.bytes.toNat, decDigits x.base]
def bodyS (l : List Plc) (i : Int) : List (List UInt8) := [wSlot, (plc l i.toNat).name]
def bodyG (l : List Plc) (g : Grn) : List (List UInt8) := [wGrant, (plc l g.fr.toNat).name, (plc l g.to.toNat).name, decDigits g.bud.toNat]
def bodies (p : Pol) : List (List (List UInt8)) := [wWork, decDigits p.work.toNat] :: [wGive, decDigits p.give.toNat] :: (p.places.map bodyP ++ (p.slots.map (bodyS p.places) ++ p.grants.map (bodyG p.places)))
/-- a policy's text -/
def print (p : Pol) : List UInt8 := textOf (bodies p)
theorem take_join {p : Pol} {f : List UInt8} {r : List (List UInt8)} (h : ∀ x ∈ f :: r, okW x) (h1 : ¬ f.head? = some 35) (h2 : r.length + 1 = asked f) : take p (joinS (f :: r)) = tell p f r := by
  unfold take
  rw [wds_join (f :: r) (by simp) h]
  simp only
  rw [if_neg h1, if_neg (by omega)]
theorem ok_key {f : List UInt8} (h : f = wWork ∨ f = wGive ∨ f = wLabel ∨ f = wSlot ∨ f = wGrant) : okW f ∧ ¬ f.head? = some 35 := by
  rcases h with rfl | rfl | rfl | rfl | rfl <;> exact ⟨⟨by decide, by decide⟩, by decide⟩
theorem run_work {p : Pol} {k u : Nat} {r : List (List UInt8)} (h : u ≤ small) : run (joinS [wWork, decDigits u] :: r) k p = run r (k + 1) { p with work := (u : Int) } := by
  have ht : take p (joinS [wWork, decDigits u]) = (0, { p with work := (u : Int) }) := by
    rw [take_join (by intro x hx; simp at hx; rcases hx with rfl | rfl; exact (ok_key (.inl rfl)).1; exact ok_dec u) (ok_key (.inl rfl)).2 rfl]
    unfold tell
    rw [if_pos rfl]
    simp only [w, List.getD_cons_zero, num_dec h]
  rw [run_ok (by rw [ht]), ht]
theorem run_give {p : Pol} {k u : Nat} {r : List (List UInt8)} (h : u ≤ small) : run (joinS [wGive, decDigits u] :: r) k p = run r (k + 1) { p with give := (u : Int) } := by
  have ht : take p (joinS [wGive, decDigits u]) = (0, { p with give := (u : Int) }) := by
    rw [take_join (by intro x hx; simp at hx; rcases hx with rfl | rfl; exact (ok_key (.inr (.inl rfl))).1; exact ok_dec u) (ok_key (.inr (.inl rfl))).2 rfl]
    unfold tell
    rw [if_neg (by decide), if_pos rfl]
    simp only [w, List.getD_cons_zero, num_dec h]
  rw [run_ok (by rw [ht]), ht]
/-- a place that can be told -/
structure okP (x : Plc) : Prop where
  nm : okW x.name
  tx : okW (Lat.textL x.lv x.set)
  lv : x.lv ≤ 15
  set : x.set < 4294967296
  by0 : 0 ≤ x.bytes
  by1 : x.bytes ≤ 65536
  ba : x.base < 18446744073709551616
theorem run_place {p : Pol} {k : Nat} {x : Plc} {r : List (List UInt8)} (h : okP x) : run (joinS (bodyP x) :: r) k p = run r (k + 1) { p with places := p.places ++ [x] } := by
  have hb : x.bytes.toNat ≤ small := by have := h.by1; unfold small; omega
  have hbb : ((x.bytes.toNat : Nat) : Int) = x.bytes := by have := h.by0; omega
  have ht : take p (joinS (bodyP x)) = (0, { p with places := p.places ++ [x] }) := by
    unfold bodyP
    rw [take_join (by intro y hy; simp at hy; rcases hy with rfl | rfl | rfl | rfl | rfl; exact (ok_key (.inr (.inr (.inl rfl)))).1; exact h.nm; exact h.tx; exact ok_dec _; exact ok_dec _) (ok_key (.inr (.inr (.inl rfl)))).2 rfl]
    unfold tell
    rw [if_neg (by decide), if_neg (by decide), if_pos rfl]
    simp only [w, List.getD_cons_zero, List.getD_cons_succ, num_dec hb, num_dec (m := most) (u := x.base) (by have := h.ba; unfold most; omega), Lat.parse_text x.lv x.set h.set, if_pos h.lv, hbb]
    rfl
  rw [run_ok (by rw [ht]), ht]
theorem run_slot {p : Pol} {k : Nat} {i : Int} {l : List Plc} {r : List (List UInt8)} (hl : p.places = l) (hn : okW (plc l i.toNat).name) (hi : 0 ≤ i) (hf : find l (plc l i.toNat).name = i) : run (joinS (bodyS l i) :: r) k p = run r (k + 1) { p with slots := p.slots ++ [i] } := by
  have ht : take p (joinS (bodyS l i)) = (0, { p with slots := p.slots ++ [i] }) := by
    unfold bodyS
    rw [take_join (by intro y hy; simp at hy; rcases hy with rfl | rfl; exact (ok_key (.inr (.inr (.inr (.inl rfl))))).1; exact hn) (ok_key (.inr (.inr (.inr (.inl rfl))))).2 rfl]
    unfold tell
    rw [if_neg (by decide), if_neg (by decide), if_neg (by decide), if_pos rfl]
    simp only [w, List.getD_cons_zero, hl, hf, none10]
    rw [if_neg (by omega)]
  rw [run_ok (by rw [ht]), ht]
theorem run_grant {p : Pol} {k : Nat} {g : Grn} {l : List Plc} {r : List (List UInt8)} (hl : p.places = l) (hn : okW (plc l g.fr.toNat).name) (hm : okW (plc l g.to.toNat).name) (hi : 0 ≤ g.fr) (hj : 0 ≤ g.to) (hf : find l (plc l g.fr.toNat).name = g.fr) (ht0 : find l (plc l g.to.toNat).name = g.to) (hb0 : 0 ≤ g.bud) (hb1 : g.bud ≤ 16) :
    run (joinS (bodyG l g) :: r) k p = run r (k + 1) { p with grants := p.grants ++ [g] } := by
  have hb : g.bud.toNat ≤ small := by unfold small; omega
  have hbb : ((g.bud.toNat : Nat) : Int) = g.bud := by omega
  have ht : take p (joinS (bodyG l g)) = (0, { p with grants := p.grants ++ [g] }) := by
    unfold bodyG
    rw [take_join (by intro y hy; simp at hy; rcases hy with rfl | rfl | rfl | rfl; exact (ok_key (.inr (.inr (.inr (.inr rfl))))).1; exact hn; exact hm; exact ok_dec _) (ok_key (.inr (.inr (.inr (.inr rfl))))).2 rfl]
    unfold tell
    rw [if_neg (by decide), if_neg (by decide), if_neg (by decide), if_neg (by decide)]
    simp only [w, List.getD_cons_zero, List.getD_cons_succ, hl, hf, ht0, none10, num_dec hb, hbb]
    rw [if_neg (by omega), if_neg (by omega)]
    rfl
  rw [run_ok (by rw [ht]), ht]
theorem run_places : ∀ (m : List Plc) (p : Pol) (k : Nat) (r : List (List UInt8)), (∀ x ∈ m, okP x) → run ((m.map bodyP).map joinS ++ r) k p = run r (k + m.length) { p with places := p.places ++ m }
  | [], p, k, r, _ => by simp
  | x :: m, p, k, r, h => by
    have ih := run_places m { p with places := p.places ++ [x] } (k + 1) r (fun y hy => h y (by simp [hy]))
    simp only [List.map_cons, List.cons_append]
    rw [run_place (h x (by simp)), ih]
    simp only [List.append_assoc, List.singleton_append, List.length_cons]
    rw [show k + 1 + m.length = k + (m.length + 1) by omega]
theorem run_slots (l : List Plc) : ∀ (m : List Int) (p : Pol) (k : Nat) (r : List (List UInt8)), p.places = l → (∀ i ∈ m, okW (plc l i.toNat).name ∧ 0 ≤ i ∧ find l (plc l i.toNat).name = i) → run ((m.map (bodyS l)).map joinS ++ r) k p = run r (k + m.length) { p with slots := p.slots ++ m }
  | [], p, k, r, _, _ => by simp
  | x :: m, p, k, r, hl, h => by
    have ih := run_slots l m { p with slots := p.slots ++ [x] } (k + 1) r hl (fun y hy => h y (by simp [hy]))
    obtain ⟨h1, h2, h3⟩ := h x (by simp)
    simp only [List.map_cons, List.cons_append]
    rw [run_slot hl h1 h2 h3, ih]
    simp only [List.append_assoc, List.singleton_append, List.length_cons]
    rw [show k + 1 + m.length = k + (m.length + 1) by omega]
theorem run_grants (l : List Plc) : ∀ (m : List Grn) (p : Pol) (k : Nat) (r : List (List UInt8)), p.places = l → (∀ g ∈ m, okW (plc l g.fr.toNat).name ∧ okW (plc l g.to.toNat).name ∧ 0 ≤ g.fr ∧ 0 ≤ g.to ∧ find l (plc l g.fr.toNat).name = g.fr ∧ find l (plc l g.to.toNat).name = g.to ∧ 0 ≤ g.bud ∧ g.bud ≤ 16) →
    run ((m.map (bodyG l)).map joinS ++ r) k p = run r (k + m.length) { p with grants := p.grants ++ m }
  | [], p, k, r, _, _ => by simp
  | x :: m, p, k, r, hl, h => by
    have ih := run_grants l m { p with grants := p.grants ++ [x] } (k + 1) r hl (fun y hy => h y (by simp [hy]))
    obtain ⟨h1, h2, h3, h4, h5, h6, h7, h8⟩ := h x (by simp)
    simp only [List.map_cons, List.cons_append]
    rw [run_grant hl h1 h2 h3 h4 h5 h6 h7 h8, ih]
    simp only [List.append_assoc, List.singleton_append, List.length_cons]
    rw [show k + 1 + m.length = k + (m.length + 1) by omega]
/-! ### what a policy that may be holds -/
theorem mark_ok {b : UInt8} (h : Wrd.mark b = true) : b ≠ 32 ∧ b ≠ 10 := by
  constructor <;> (intro e; subst e; revert h; decide)
theorem name_ok {n : List UInt8} (h : Wrd.nameCode n = 0) : okW n ∧ n.length ≤ 16 := by
  unfold Wrd.nameCode at h
  split at h
  · cases h
  · split at h
    · cases h
    · split at h
      · rename_i h0 h1 h2
        refine ⟨⟨fun e => h0 (by rw [e]; rfl), fun b hb => mark_ok (List.all_eq_true.1 h2 b hb)⟩, by omega⟩
      · cases h
theorem piece_ok (b : UInt8) (k : Nat) (h : b ∈ (58 : UInt8) :: decDigits k) : b ≠ 32 ∧ b ≠ 10 := by
  rcases List.mem_cons.1 h with rfl | h
  · decide
  · exact (ok_dec k).2 b h
theorem chk_of {p : Pol} (h : check p = 0) : 1 ≤ p.work ∧ p.work ≤ 16 ∧ 1 ≤ p.give ∧ p.give ≤ 16 ∧ placesCode p.places = 0 ∧ slotsCode p.places.length p.slots = 0 ∧ grantsCode p.places p.grants = 0 := by
  unfold check at h
  split at h
  · rename_i hw
    obtain ⟨h1, h2⟩ := Bool.and_eq_true_iff.1 hw
    have w1 := within_iff.1 h1
    have w2 := within_iff.1 h2
    by_cases h3 : placesCode p.places ≠ 0
    · rw [if_pos h3] at h; exact absurd h h3
    · rw [if_neg h3] at h
      by_cases h4 : slotsCode p.places.length p.slots ≠ 0
      · rw [if_pos h4] at h; exact absurd h h4
      · rw [if_neg h4] at h
        by_cases h5 : grantsCode p.places p.grants ≠ 0
        · rw [if_pos h5] at h; exact absurd h h5
        · exact ⟨w1.1, w1.2, w2.1, w2.2, by omega, by omega, by omega⟩
  · cases h
theorem plc_get {l : List Plc} {i : Nat} (hi : i < l.length) : plc l i = l[i] := by unfold plc; rw [List.getD_eq_getElem?_getD, List.getElem?_eq_getElem hi]; rfl
theorem place_of {l : List Plc} (h : placesCode l = 0) {i : Nat} (hi : i < l.length) : Wrd.nameCode (plc l i).name = 0 ∧ plcFine (plc l i) = true ∧ (l.take i).any (plcSame (plc l i)) = false := by
  unfold placesCode at h
  by_cases hc : counted l.length 16 ≠ 0
  · rw [if_pos hc] at h; exact absurd h hc
  · rw [if_neg hc] at h
    have hs := scan_none h i hi
    unfold plcCode at hs
    split at hs
    · rename_i hn; exact absurd hs hn
    · rename_i hn
      split at hs
      · rename_i hf
        split at hs
        · cases hs
        · rename_i ha
          exact ⟨by omega, hf, by simpa using ha⟩
      · cases hs
theorem names_apart {l : List Plc} (h : placesCode l = 0) {i j : Nat} (hij : i < j) (hj : j < l.length) : (plc l i).name ≠ (plc l j).name := by
  intro e
  have h3 := (place_of h hj).2.2
  rw [List.any_eq_false] at h3
  refine h3 (plc l i) ?_ ?_
  · rw [plc_get (by omega)]
    exact List.mem_take_iff_getElem.2 ⟨i, by omega, rfl⟩
  · unfold plcSame
    simp [e]
theorem find_self {l : List Plc} (h : placesCode l = 0) {i : Int} (hi : has l.length i = true) : find l (plc l i.toNat).name = i := by
  have hw := within_iff.1 hi
  have hn : i.toNat < l.length := by omega
  unfold find
  have e : l.findIdx? (fun x => x.name == (plc l i.toNat).name) = some i.toNat := by
    rw [List.findIdx?_eq_some_iff_getElem]
    refine ⟨hn, by rw [plc_get hn]; simp, fun j hj => ?_⟩
    have := names_apart h hj hn
    rw [plc_get (by omega)] at this
    simpa using this
  rw [e]
  show ((i.toNat : Nat) : Int) = i
  omega
theorem bits_ok (st : Nat) : ∀ (n : Nat) (b : UInt8), b ∈ Lat.bits st n → b ≠ 32 ∧ b ≠ 10
  | 0, b, h => by simp [Lat.bits] at h
  | n + 1, b, h => by
    rw [Lat.bits] at h
    rcases List.mem_append.1 h with h | h
    · exact bits_ok st n b h
    · unfold Lat.piece at h
      split at h
      · exact piece_ok b n h
      · simp at h
theorem text_ok (lv st : Nat) : okW (Lat.textL lv st) := by
  unfold Lat.textL
  refine ⟨fun e => Lat.dec_ne lv (List.append_eq_nil_iff.1 e).1, fun b hb => ?_⟩
  rcases List.mem_append.1 hb with hb | hb
  · exact (ok_dec lv).2 b hb
  · exact bits_ok st 32 b hb
/-- what is told of a policy is read as it -/
theorem parse_print {p : Pol} (h : check p = 0) (hset : ∀ x ∈ p.places, x.set < 4294967296 ∧ x.base < 18446744073709551616) : parse (print p) = (p, 0, 0) := by
  obtain ⟨w1, w2, g1, g2, hP, hS, hG⟩ := chk_of h
  have hp : ∀ x ∈ p.places, okP x := fun x hx => by
    obtain ⟨i, hi, e⟩ := List.getElem_of_mem hx
    obtain ⟨a1, a2, -⟩ := place_of hP hi
    rw [plc_get hi, e] at a1 a2
    unfold plcFine at a2
    simp only [Bool.and_eq_true, decide_eq_true_eq] at a2
    have hb := within_iff.1 a2.1.2
    exact ⟨(name_ok a1).1, text_ok _ _, a2.1.1, (hset x hx).1, hb.1, hb.2, (hset x hx).2⟩
  have hnm : ∀ i : Int, has p.places.length i = true → okW (plc p.places i.toNat).name := fun i hi => by
    have hw := within_iff.1 hi
    exact (name_ok (place_of hP (i := i.toNat) (by omega)).1).1
  have hs : ∀ i ∈ p.slots, okW (plc p.places i.toNat).name ∧ 0 ≤ i ∧ find p.places (plc p.places i.toNat).name = i := fun i hi => by
    obtain ⟨k, hk, e⟩ := List.getElem_of_mem hi
    unfold slotsCode at hS
    by_cases hc : counted p.slots.length 32 ≠ 0
    · rw [if_pos hc] at hS; exact absurd hS hc
    · rw [if_neg hc] at hS
      have := scan_none hS k hk
      rw [List.getD_eq_getElem?_getD, List.getElem?_eq_getElem hk] at this
      simp only [Option.getD_some, e] at this
      have hh : has p.places.length i = true := by
        by_cases hh : has p.places.length i = true
        · exact hh
        · rw [if_neg hh] at this; cases this
      exact ⟨hnm i hh, (within_iff.1 hh).1, find_self hP hh⟩
  have hg : ∀ g ∈ p.grants, okW (plc p.places g.fr.toNat).name ∧ okW (plc p.places g.to.toNat).name ∧ 0 ≤ g.fr ∧ 0 ≤ g.to ∧ find p.places (plc p.places g.fr.toNat).name = g.fr ∧ find p.places (plc p.places g.to.toNat).name = g.to ∧ 0 ≤ g.bud ∧ g.bud ≤ 16 := fun g hgm => by
    obtain ⟨k, hk, e⟩ := List.getElem_of_mem hgm
    unfold grantsCode at hG
    split at hG
    · cases hG
    · have := scan_none hG k hk
      unfold grn at this
      rw [List.getD_eq_getElem?_getD, List.getElem?_eq_getElem hk] at this
      simp only [Option.getD_some, e] at this
      unfold grnCode at this
      split at this
      · rename_i hh
        obtain ⟨h1, h2⟩ := Bool.and_eq_true_iff.1 hh
        split at this
        · cases this
        · split at this
          · rename_i hb
            have hb := within_iff.1 hb
            exact ⟨hnm _ h1, hnm _ h2, (within_iff.1 h1).1, (within_iff.1 h2).1, find_self hP h1, find_self hP h2, hb.1, hb.2⟩
          · cases this
      · cases this
  have hok : ∀ ws ∈ bodies p, ∀ x ∈ ws, okW x := by
    intro ws hws x hx
    unfold bodies at hws
    simp only [List.mem_cons, List.mem_append, List.mem_map] at hws
    rcases hws with rfl | rfl | ⟨y, hy, rfl⟩ | ⟨y, hy, rfl⟩ | ⟨y, hy, rfl⟩
    · simp at hx; rcases hx with rfl | rfl; exact (ok_key (.inl rfl)).1; exact ok_dec _
    · simp at hx; rcases hx with rfl | rfl; exact (ok_key (.inr (.inl rfl))).1; exact ok_dec _
    · simp [bodyP] at hx; rcases hx with rfl | rfl | rfl | rfl | rfl; exact (ok_key (.inr (.inr (.inl rfl)))).1; exact (hp y hy).nm; exact (hp y hy).tx; exact ok_dec _; exact ok_dec _
    · simp [bodyS] at hx; rcases hx with rfl | rfl; exact (ok_key (.inr (.inr (.inr (.inl rfl))))).1; exact (hs y hy).1
    · simp [bodyG] at hx; rcases hx with rfl | rfl | rfl | rfl; exact (ok_key (.inr (.inr (.inr (.inr rfl))))).1; exact (hg y hy).1; exact (hg y hy).2.1; exact ok_dec _
  unfold parse print
  rw [lines_text _ hok]
  unfold bodies
  simp only [List.map_cons, List.map_append, List.cons_append, List.append_assoc]
  rw [run_work (by unfold small; omega), run_give (by unfold small; omega), run_places _ _ _ _ hp, run_slots p.places _ _ _ _ (by simp [Pol.zero]) hs, run_grants p.places _ _ _ _ (by simp [Pol.zero]) hg]
  have e : (⟨((p.work.toNat : Nat) : Int), ((p.give.toNat : Nat) : Int), p.places, p.slots, p.grants⟩ : Pol) = p := by
    obtain ⟨a, b, c, d, f⟩ := p
    simp only at w1 g1
    simp only [Pol.mk.injEq, and_true]
    constructor <;> omega
  simp only [Pol.zero, List.nil_append]
  rw [e]
  show run [[]] _ p = _
  rw [run, take_nil, if_neg (by simp), run]
  unfold fin
  rw [if_neg (by rw [h]; simp)]
end Go.Proofs.YtokljdaofjgihaaGreatDoor.Pl
namespace Go.Proofs.YtokljdaofjgihaaGreatDoor
open Go.ChangeShapes Go.WideShapes Go.ChangeAt Go.RowKit
open Lib (decDigits)

theorem dec_len_le : ∀ (k n : Nat), 0 < k → n < 10 ^ k → (decDigits n).length ≤ k
  | 0, n, h, _ => absurd h (by omega)
  | k + 1, n, _, h => by
    by_cases h10 : n < 10
    · rw [Lat.dec_small h10]; simp
    · rw [Lat.dec_big h10, List.length_append, List.length_singleton]
      have hk : 0 < k := by
        cases k with
        | zero => simp at h; omega
        | succ k => omega
      have : n / 10 < 10 ^ k := by rw [Nat.pow_succ] at h; omega
      have := dec_len_le k (n / 10) hk this
      omega
theorem dec_len20 {n : Nat} (h : n < 18446744073709551616) : (decDigits n).length ≤ 20 := dec_len_le 20 n (by omega) (by omega)
set_option maxRecDepth 100000 in
set_option maxHeartbeats 1000000 in
theorem rdig_any : ∀ n : Nat, n < 18446744073709551616 → ∀ w : World, Calls Tryz.prog 52 #[.int .u64 (n : Int)] w fun e w' => e = .returned (.string (ofL (decDigits n))) ∧ w = w' := by
  intro n
  induction n using Nat.strongRecOn with
  | _ n ih =>
    intro hn w
    by_cases h : n < 10
    · have HC := Lib.hid (digit_cut n h)
      have HD := Lib.hid (congrArg ofL (Lat.dec_small h))
      have e1 : IntKind.u64.wrap ((n : Int) + 1) = ((n + 1 : Nat) : Int) := by rw [IntKind.wrap_u64]; omega
      generalize ofL (decDigits n) = D at *
      clear ih hn
      go_enter Tryz.func52, Tryz.ntmps52
      go_wp2_with fail
      go_ret
      exact ⟨ret_str (by rw [HD.out]; exact HC.out), rfl⟩
    · have HD := Lib.hid (congrArg ofL (Lat.dec_big h))
      have H1 := Lib.hid (fun W => ih (n / 10) (by omega) (by omega) W)
      have H2 := Lib.hid (fun W => ih (n % 10) (by omega) (by omega) W)
      have z1 : (ofL (decDigits (n / 10))).size ≤ 20 := by rw [ofL_size]; exact dec_len20 (by omega)
      have z2 : (ofL (decDigits (n % 10))).size ≤ 20 := by rw [ofL_size]; exact dec_len20 (by omega)
      have HS := Lib.hid (show ofL (decDigits (n / 10)) ++ ofL (decDigits (n % 10)) = ofL (decDigits n) by rw [ofL_app, Lat.dec_small (u := n % 10) (by omega), ← Lat.dec_big h])
      have e1 : Int.tdiv (n : Int) 10 = ((n / 10 : Nat) : Int) := Rd.tdiv n 10
      have e2 : Int.tmod (n : Int) 10 = ((n % 10 : Nat) : Int) := by rw [show (10 : Int) = ((10 : Nat) : Int) from rfl, ← Int.ofNat_tmod]
      have e3 : IntKind.u64.wrap ((n / 10 : Nat) : Int) = ((n / 10 : Nat) : Int) := by rw [IntKind.wrap_u64]; omega
      have e4 : IntKind.u64.wrap ((n % 10 : Nat) : Int) = ((n % 10 : Nat) : Int) := by rw [IntKind.wrap_u64]; omega
      generalize ofL (decDigits n) = D at *
      generalize ofL (decDigits (n / 10)) = D1 at *
      generalize ofL (decDigits (n % 10)) = D2 at *
      generalize n / 10 = q1 at *
      generalize n % 10 = q2 at *
      clear ih HD hn
      go_enter Tryz.func52, Tryz.ntmps52
      go_wp2_with fail
      refine (H1.out _).mono ?_
      rintro e w' ⟨rfl, rfl⟩
      go_wp2_with fail
      refine (H2.out _).mono ?_
      rintro e w' ⟨rfl, rfl⟩
      go_wp2_with fail
      go_ret
      exact ⟨ret_str HS.out, rfl⟩
theorem tail_eq : ∀ (x : List UInt8) (r : List (List UInt8)), Pl.joinS (x :: r) = x ++ Lib.joinTail [32] r
  | x, [] => by simp [Pl.joinS, Lib.joinTail]
  | x, y :: r => by rw [Pl.joinS, tail_eq y r]; simp [Lib.joinTail]
theorem join_eq (ws : List (List UInt8)) : Lib.join ws [32] = Pl.joinS ws := by
  cases ws with
  | nil => rfl
  | cons x r => rw [Lib.join_cons, tail_eq]
/-- words as a line of a text -/
theorem pline_any (ws : List (List UInt8)) (g c : Nat) (W : World) (h0 : ws ≠ []) (hc : ∀ (j : Nat) (h : j < ws.length), W.cell? ⟨g, j, none⟩ = some (.string (ofL ws[j]))) (hn : ws.length ≤ c) (hl : (Pl.joinS ws).length ≤ 100000) (hk : ws.length ≤ 1000) :
    Calls Tryz.prog 39 #[.slice (some ⟨g, 0, none⟩) ws.length c] W fun e w' => e = .returned (.string (ofL (Pl.joinS ws ++ [10]))) ∧ Below W.heap.size W w' := by
  have hg : g < W.heap.size := by
    have := hc 0 (List.length_pos_iff.2 h0)
    exact World.block_lt_of_cell? W _ this
  have HJ := Lib.hid (Tryz.strings_Join g 0 c (ws.map ofL) ⟨#[32]⟩ W (fun j x hj => by
    rw [List.getElem?_map] at hj
    cases hw : ws[j]? with
    | none => rw [hw] at hj; simp at hj
    | some y =>
      rw [hw] at hj
      simp at hj
      subst hj
      obtain ⟨hj1, hj2⟩ := List.getElem?_eq_some_iff.1 hw
      have := hc j hj1
      rw [hj2] at this
      simpa using this) hg (by simp; omega) (by simpa using hn) (by
    have e : (ws.map ofL).map (fun x => x.data.toList) = ws := by rw [List.map_map]; exact List.map_id'' (fun x => rfl) ws
    rw [e, show (⟨#[32]⟩ : ByteArray).data.toList = [32] from rfl, join_eq]
    omega))
  have e : (ws.map ofL).map (fun x => x.data.toList) = ws := by rw [List.map_map]; exact List.map_id'' (fun x => rfl) ws
  rw [e, show (⟨#[32]⟩ : ByteArray).data.toList = [32] from rfl, join_eq, List.length_map] at HJ
  have HS := Lib.hid (show (⟨(Pl.joinS ws).toArray⟩ : ByteArray) ++ (⟨#[10]⟩ : ByteArray) = ofL (Pl.joinS ws ++ [10]) from ofL_app (Pl.joinS ws) [10])
  have hz : (⟨(Pl.joinS ws).toArray⟩ : ByteArray).size ≤ 100000 := by show (Pl.joinS ws).toArray.size ≤ 100000; simpa using hl
  clear hc
  generalize (⟨(Pl.joinS ws).toArray⟩ : ByteArray) = J at *
  go_enter Tryz.func39, Tryz.ntmps39
  go_wp2_with fail
  (with_reducible refine HJ.out.mono ?_)
  rintro e w' ⟨rfl, hB⟩
  have HB := Lib.hid hB
  clear hB
  go_wp2_with fail
  go_ret
  exact ⟨ret_str HS.out, HB.out⟩
end Go.Proofs.YtokljdaofjgihaaGreatDoor
namespace Go.Proofs.YtokljdaofjgihaaGreatDoor
open Go.ChangeShapes Go.WideShapes Go.ChangeAt Go.RowKit Go.Sort
open Lib (decDigits)
namespace Pl
theorem textOf_app (A B : List (List (List UInt8))) : textOf (A ++ B) = textOf A ++ textOf B := by simp [textOf]
/-- the text of the first lines -/
def pre (p : Pol) (m : Nat) : List UInt8 := textOf ((bodies p).take m)
theorem pre_succ {p : Pol} {m : Nat} (B : List (List UInt8)) (h : (bodies p)[m]? = some B) : pre p (m + 1) = pre p m ++ (joinS B ++ [10]) := by
  obtain ⟨hm, e⟩ := List.getElem?_eq_some_iff.1 h
  unfold pre
  rw [List.take_succ_eq_append_getElem hm, textOf_app, e]
  simp [textOf]
theorem pre_two (p : Pol) : pre p 2 = (joinS [wWork, decDigits p.work.toNat] ++ [10]) ++ (joinS [wGive, decDigits p.give.toNat] ++ [10]) := by
  simp [pre, bodies, textOf]
theorem get_mid {α : Type} {a b c : List α} {i : Nat} {x : α} (h : b[i]? = some x) : (a ++ (b ++ c))[a.length + i]? = some x := by
  rw [List.getElem?_append_right (by omega), Nat.add_sub_cancel_left]
  obtain ⟨hi, _⟩ := List.getElem?_eq_some_iff.1 h
  rw [List.getElem?_append_left hi]
  exact h
theorem map_get {α β : Type} (f : α → β) {l : List α} {i : Nat} (d : α) (h : i < l.length) : (l.map f)[i]? = some (f (l.getD i d)) := by
  rw [List.getElem?_map, List.getD_eq_getElem?_getD, List.getElem?_eq_getElem h]
  rfl
theorem bodies_eq (p : Pol) : bodies p = [[wWork, decDigits p.work.toNat], [wGive, decDigits p.give.toNat]] ++ (p.places.map bodyP ++ (p.slots.map (bodyS p.places) ++ p.grants.map (bodyG p.places))) := rfl
theorem pre_place {p : Pol} {k : Nat} (h : k < p.places.length) : pre p (2 + (k + 1)) = pre p (2 + k) ++ (joinS (bodyP (plc p.places k)) ++ [10]) := by
  refine pre_succ _ ?_
  rw [bodies_eq]
  exact get_mid (map_get bodyP Plc.zero h)
theorem pre_slot {p : Pol} {k : Nat} (h : k < p.slots.length) : pre p (2 + p.places.length + (k + 1)) = pre p (2 + p.places.length + k) ++ (joinS (bodyS p.places (p.slots.getD k 0)) ++ [10]) := by
  refine pre_succ _ ?_
  rw [bodies_eq, ← List.append_assoc]
  have := get_mid (a := [[wWork, decDigits p.work.toNat], [wGive, decDigits p.give.toNat]] ++ p.places.map bodyP) (c := p.grants.map (bodyG p.places)) (map_get (bodyS p.places) 0 h)
  rw [List.length_append, List.length_map] at this
  exact this
theorem pre_grant {p : Pol} {k : Nat} (h : k < p.grants.length) : pre p (2 + p.places.length + p.slots.length + (k + 1)) = pre p (2 + p.places.length + p.slots.length + k) ++ (joinS (bodyG p.places (grn p.grants k)) ++ [10]) := by
  refine pre_succ _ ?_
  rw [bodies_eq, ← List.append_assoc, ← List.append_assoc]
  have := get_mid (a := [[wWork, decDigits p.work.toNat], [wGive, decDigits p.give.toNat]] ++ p.places.map bodyP ++ p.slots.map (bodyS p.places)) (c := []) (map_get (bodyG p.places) Grn.zero h)
  rw [List.append_nil, List.length_append, List.length_append, List.length_map, List.length_map] at this
  exact this
theorem pre_all (p : Pol) : pre p (2 + p.places.length + p.slots.length + p.grants.length) = print p := by
  unfold pre print
  rw [List.take_of_length_le (by rw [bodies_eq]; simp; omega)]
/-- what a policy that may be says of the words of its text -/
structure Fine (p : Pol) : Prop where
  work : 1 ≤ p.work ∧ p.work ≤ 16
  give : 1 ≤ p.give ∧ p.give ≤ 16
  np : p.places.length ≤ 1000
  ns : p.slots.length ≤ 1000
  ng : p.grants.length ≤ 1000
  name : ∀ i, i < p.places.length → (plc p.places i).name.length ≤ 16
  bytes : ∀ i, i < p.places.length → 0 ≤ (plc p.places i).bytes ∧ (plc p.places i).bytes ≤ 9223372036854775807
  lv : ∀ i, i < p.places.length → (plc p.places i).lv < 256
  set : ∀ i, i < p.places.length → (plc p.places i).set < 4294967296
  base : ∀ i, i < p.places.length → (plc p.places i).base < 18446744073709551616
  slot : ∀ i, i < p.slots.length → 0 ≤ p.slots.getD i 0 ∧ p.slots.getD i 0 < p.places.length
  grant : ∀ i, i < p.grants.length → 0 ≤ (grn p.grants i).fr ∧ (grn p.grants i).fr < p.places.length ∧ 0 ≤ (grn p.grants i).to ∧ (grn p.grants i).to < p.places.length ∧ 0 ≤ (grn p.grants i).bud ∧ (grn p.grants i).bud ≤ 16
theorem text_len' (lv st : Nat) (h : lv < 256) : (Lat.textL lv st).length ≤ 99 := by
  have h1 := Lat.dec_le3 (u := lv) (by omega)
  have h2 := Lat.bits_le st 32 (Nat.le_refl _)
  unfold Lat.textL
  rw [List.length_append]
  omega
theorem len_place {p : Pol} (h : Fine p) {k : Nat} (hk : k < p.places.length) : (joinS (bodyP (plc p.places k))).length ≤ 999 := by
  have h1 := h.name k hk
  have h2 := h.bytes k hk
  have h3 := text_len' (plc p.places k).lv (plc p.places k).set (h.lv k hk)
  have h4 := dec_len20 (n := (plc p.places k).bytes.toNat) (by omega)
  have h5 := dec_len20 (h.base k hk)
  simp only [bodyP, joinS, List.length_append, List.length_cons, show wLabel.length = 5 from rfl]
  omega
theorem len_slot {p : Pol} (h : Fine p) {k : Nat} (hk : k < p.slots.length) : (joinS (bodyS p.places (p.slots.getD k 0))).length ≤ 999 := by
  have h0 := h.slot k hk
  have h1 := h.name (p.slots.getD k 0).toNat (by omega)
  simp only [bodyS, joinS, List.length_append, List.length_cons, show wSlot.length = 4 from rfl]
  omega
theorem len_grant {p : Pol} (h : Fine p) {k : Nat} (hk : k < p.grants.length) : (joinS (bodyG p.places (grn p.grants k))).length ≤ 999 := by
  obtain ⟨a1, a2, a3, a4, a5, a6⟩ := h.grant k hk
  have h1 := h.name (grn p.grants k).fr.toNat (by omega)
  have h2 := h.name (grn p.grants k).to.toNat (by omega)
  have h3 := dec_len20 (n := (grn p.grants k).bud.toNat) (by omega)
  simp only [bodyG, joinS, List.length_append, List.length_cons, show wGrant.length = 5 from rfl]
  omega
theorem two_len {p : Pol} (h : Fine p) : (pre p 2).length ≤ 2000 := by
  have h1 := h.work; have h2 := h.give
  have h3 := dec_len20 (n := p.work.toNat) (by omega)
  have h4 := dec_len20 (n := p.give.toNat) (by omega)
  rw [pre_two]
  simp only [joinS, List.length_append, List.length_cons, List.length_nil, show wWork.length = 4 from rfl, show wGive.length = 4 from rfl]
  omega
theorem place_len {p : Pol} (h : Fine p) : ∀ k, k ≤ p.places.length → (pre p (2 + k)).length ≤ 1000 * (2 + k)
  | 0, _ => by have := two_len h; simpa using this
  | k + 1, hk => by
    have := place_len h k (by omega)
    have h2 := len_place h (k := k) (by omega)
    rw [pre_place (by omega), List.length_append, List.length_append]
    simp only [List.length_cons, List.length_nil]
    omega
theorem slot_len {p : Pol} (h : Fine p) : ∀ k, k ≤ p.slots.length → (pre p (2 + p.places.length + k)).length ≤ 1000 * (2 + p.places.length + k)
  | 0, _ => place_len h _ (Nat.le_refl _)
  | k + 1, hk => by
    have := slot_len h k (by omega)
    have h2 := len_slot h (k := k) (by omega)
    rw [pre_slot (by omega), List.length_append, List.length_append]
    simp only [List.length_cons, List.length_nil]
    omega
theorem grant_len {p : Pol} (h : Fine p) : ∀ k, k ≤ p.grants.length → (pre p (2 + p.places.length + p.slots.length + k)).length ≤ 1000 * (2 + p.places.length + p.slots.length + k)
  | 0, _ => slot_len h _ (Nat.le_refl _)
  | k + 1, hk => by
    have := grant_len h k (by omega)
    have h2 := len_grant h (k := k) (by omega)
    rw [pre_grant (by omega), List.length_append, List.length_append]
    simp only [List.length_cons, List.length_nil]
    omega
end Pl
theorem two_ba (p : Pl.Pol) : (⟨#[119, 111, 114, 107, 32]⟩ : ByteArray) ++ ofL (decDigits p.work.toNat) ++ (⟨#[10, 103, 105, 118, 101, 32]⟩ : ByteArray) ++ ofL (decDigits p.give.toNat) ++ (⟨#[10]⟩ : ByteArray) = ofL (Pl.pre p 2) := by
  rw [Pl.pre_two]
  show ofL [119, 111, 114, 107, 32] ++ _ ++ ofL [10, 103, 105, 118, 101, 32] ++ _ ++ ofL [10] = _
  simp only [ofL_app]
  congr 1
  simp [Pl.joinS, Pl.wWork, Pl.wGive]
theorem place_ba {p : Pl.Pol} {k : Nat} (h : k < p.places.length) : ofL (Pl.pre p (2 + k)) ++ (⟨#[108, 97, 98, 101, 108, 32]⟩ : ByteArray) ++ ofL (Pl.plc p.places k).name ++ (⟨#[32]⟩ : ByteArray) ++ ofL (Lat.textL (Pl.plc p.places k).lv (Pl.plc p.places k).set) ++ (⟨#[32]⟩ : ByteArray) ++ ofL (decDigits (Pl.plc p.places k).bytes.toNat) ++ (⟨#[32]⟩ : ByteArray) ++ ofL (decDigits (Pl.plc p.places k).base) ++ (⟨#[10]⟩ : ByteArray) = ofL (Pl.pre p (2 + (k + 1))) := by
  rw [Pl.pre_place h]
  show _ ++ ofL [108, 97, 98, 101, 108, 32] ++ _ ++ ofL [32] ++ _ ++ ofL [32] ++ _ ++ ofL [32] ++ _ ++ ofL [10] = _
  simp only [ofL_app]
  congr 1
  simp [Pl.bodyP, Pl.joinS, Pl.wLabel]
theorem slot_ba {p : Pl.Pol} {k : Nat} (h : k < p.slots.length) : ofL (Pl.pre p (2 + p.places.length + k)) ++ (⟨#[115, 108, 111, 116, 32]⟩ : ByteArray) ++ ofL (Pl.plc p.places (p.slots.getD k 0).toNat).name ++ (⟨#[10]⟩ : ByteArray) = ofL (Pl.pre p (2 + p.places.length + (k + 1))) := by
  rw [Pl.pre_slot h]
  show _ ++ ofL [115, 108, 111, 116, 32] ++ _ ++ ofL [10] = _
  simp only [ofL_app]
  congr 1
  simp [Pl.bodyS, Pl.joinS, Pl.wSlot]
theorem grant_ba {p : Pl.Pol} {k : Nat} (h : k < p.grants.length) : ofL (Pl.pre p (2 + p.places.length + p.slots.length + k)) ++ (⟨#[103, 114, 97, 110, 116, 32]⟩ : ByteArray) ++ ofL (Pl.plc p.places (Pl.grn p.grants k).fr.toNat).name ++ (⟨#[32]⟩ : ByteArray) ++ ofL (Pl.plc p.places (Pl.grn p.grants k).to.toNat).name ++ (⟨#[32]⟩ : ByteArray) ++ ofL (decDigits (Pl.grn p.grants k).bud.toNat) ++ (⟨#[10]⟩ : ByteArray) = ofL (Pl.pre p (2 + p.places.length + p.slots.length + (k + 1))) := by
  rw [Pl.pre_grant h]
  show _ ++ ofL [103, 114, 97, 110, 116, 32] ++ _ ++ ofL [32] ++ _ ++ ofL [32] ++ _ ++ ofL [10] = _
  simp only [ofL_app]
  congr 1
  simp [Pl.bodyG, Pl.joinS, Pl.wGrant]
/-- what is known of the texts, by their lines -/
structure PrF (wk gv : Nat) (pl : List Pl.Plc) (sl : List Int) (gr : List Pl.Grn) (PR : Nat → ByteArray) (T : ByteArray) : Prop where
  fine : Pl.Fine ⟨wk, gv, pl, sl, gr⟩
  two : (⟨#[119, 111, 114, 107, 32]⟩ : ByteArray) ++ ofL (decDigits wk) ++ (⟨#[10, 103, 105, 118, 101, 32]⟩ : ByteArray) ++ ofL (decDigits gv) ++ (⟨#[10]⟩ : ByteArray) = PR 2
  place : ∀ k, k < pl.length → PR (2 + k) ++ (⟨#[108, 97, 98, 101, 108, 32]⟩ : ByteArray) ++ ofL (Pl.plc pl k).name ++ (⟨#[32]⟩ : ByteArray) ++ ofL (Lat.textL (Pl.plc pl k).lv (Pl.plc pl k).set) ++ (⟨#[32]⟩ : ByteArray) ++ ofL (decDigits (Pl.plc pl k).bytes.toNat) ++ (⟨#[32]⟩ : ByteArray) ++ ofL (decDigits (Pl.plc pl k).base) ++ (⟨#[10]⟩ : ByteArray) = PR (2 + (k + 1))
  slot : ∀ k, k < sl.length → PR (2 + pl.length + k) ++ (⟨#[115, 108, 111, 116, 32]⟩ : ByteArray) ++ ofL (Pl.plc pl (sl.getD k 0).toNat).name ++ (⟨#[10]⟩ : ByteArray) = PR (2 + pl.length + (k + 1))
  grant : ∀ k, k < gr.length → PR (2 + pl.length + sl.length + k) ++ (⟨#[103, 114, 97, 110, 116, 32]⟩ : ByteArray) ++ ofL (Pl.plc pl (Pl.grn gr k).fr.toNat).name ++ (⟨#[32]⟩ : ByteArray) ++ ofL (Pl.plc pl (Pl.grn gr k).to.toNat).name ++ (⟨#[32]⟩ : ByteArray) ++ ofL (decDigits (Pl.grn gr k).bud.toNat) ++ (⟨#[10]⟩ : ByteArray) = PR (2 + pl.length + sl.length + (k + 1))
  all : PR (2 + pl.length + sl.length + gr.length) = T
  psz : ∀ k, k ≤ pl.length → (PR (2 + k)).size ≤ 4000000
  ssz : ∀ k, k ≤ sl.length → (PR (2 + pl.length + k)).size ≤ 4000000
  gsz : ∀ k, k ≤ gr.length → (PR (2 + pl.length + sl.length + k)).size ≤ 4000000
theorem prf_of (wk gv : Nat) (pl : List Pl.Plc) (sl : List Int) (gr : List Pl.Grn) (hF : Pl.Fine ⟨wk, gv, pl, sl, gr⟩) : PrF wk gv pl sl gr (fun m => ofL (Pl.pre ⟨wk, gv, pl, sl, gr⟩ m)) (ofL (Pl.print ⟨wk, gv, pl, sl, gr⟩)) := by
  have h1 : pl.length ≤ 1000 := hF.np
  have h2 : sl.length ≤ 1000 := hF.ns
  have h3 : gr.length ≤ 1000 := hF.ng
  refine ⟨hF, two_ba ⟨wk, gv, pl, sl, gr⟩, fun k h => place_ba (p := ⟨wk, gv, pl, sl, gr⟩) h, fun k h => slot_ba (p := ⟨wk, gv, pl, sl, gr⟩) h, fun k h => grant_ba (p := ⟨wk, gv, pl, sl, gr⟩) h, congrArg ofL (Pl.pre_all ⟨wk, gv, pl, sl, gr⟩), fun k h => ?_, fun k h => ?_, fun k h => ?_⟩
  · have := Pl.place_len hF k h
    rw [ofL_size]; omega
  · have : (Pl.pre ⟨wk, gv, pl, sl, gr⟩ (2 + pl.length + k)).length ≤ 1000 * (2 + pl.length + k) := Pl.slot_len hF k h
    rw [ofL_size]; omega
  · have : (Pl.pre ⟨wk, gv, pl, sl, gr⟩ (2 + pl.length + sl.length + k)).length ≤ 1000 * (2 + pl.length + sl.length + k) := Pl.grant_len hF k h
    rw [ofL_size]; omega
end Go.Proofs.YtokljdaofjgihaaGreatDoor
namespace Go.Proofs.YtokljdaofjgihaaGreatDoor
open Go.ChangeShapes Go.WideShapes Go.ChangeAt Go.RowKit Go.Sort
namespace Pl
theorem counted_le {n m : Nat} (h : counted n m = 0) : n ≤ m := by
  unfold counted at h
  split at h
  · omega
  · split at h
    · cases h
    · omega
theorem fine_of {p : Pol} (h : check p = 0) (hset : ∀ i, i < p.places.length → (plc p.places i).set < 4294967296) (hbase : ∀ i, i < p.places.length → (plc p.places i).base < 18446744073709551616) : Fine p := by
  obtain ⟨w1, w2, g1, g2, hP, hS, hG⟩ := chk_of h
  have hpl : ∀ i, i < p.places.length → (plc p.places i).name.length ≤ 16 ∧ (plc p.places i).lv ≤ 15 ∧ 0 ≤ (plc p.places i).bytes ∧ (plc p.places i).bytes ≤ 65536 := fun i hi => by
    obtain ⟨a1, a2, -⟩ := place_of hP hi
    unfold plcFine at a2
    simp only [Bool.and_eq_true, decide_eq_true_eq] at a2
    have hb := within_iff.1 a2.1.2
    exact ⟨(name_ok a1).2, a2.1.1, hb.1, hb.2⟩
  have hnp : p.places.length ≤ 16 := by
    unfold placesCode at hP
    by_cases hc : counted p.places.length 16 ≠ 0
    · rw [if_pos hc] at hP; exact absurd hP hc
    · exact counted_le (by omega)
  have hns : p.slots.length ≤ 32 ∧ ∀ i, i < p.slots.length → has p.places.length (p.slots.getD i 0) = true := by
    unfold slotsCode at hS
    by_cases hc : counted p.slots.length 32 ≠ 0
    · rw [if_pos hc] at hS; exact absurd hS hc
    · rw [if_neg hc] at hS
      refine ⟨counted_le (by omega), fun i hi => ?_⟩
      have := scan_none hS i hi
      by_cases hh : has p.places.length (p.slots.getD i 0) = true
      · exact hh
      · rw [if_neg hh] at this; cases this
  have hng : p.grants.length ≤ 8 ∧ ∀ i, i < p.grants.length → has p.places.length (grn p.grants i).fr = true ∧ has p.places.length (grn p.grants i).to = true ∧ within (grn p.grants i).bud 0 16 = true := by
    unfold grantsCode at hG
    split at hG
    · cases hG
    · refine ⟨by omega, fun i hi => ?_⟩
      have := scan_none hG i hi
      unfold grnCode at this
      split at this
      · rename_i hh
        obtain ⟨h1, h2⟩ := Bool.and_eq_true_iff.1 hh
        split at this
        · cases this
        · split at this
          · rename_i hb
            exact ⟨h1, h2, hb⟩
          · cases this
      · cases this
  refine ⟨⟨w1, w2⟩, ⟨g1, g2⟩, by omega, by have := hns.1; omega, by have := hng.1; omega, fun i hi => (hpl i hi).1, fun i hi => ⟨(hpl i hi).2.2.1, by have := (hpl i hi).2.2.2; omega⟩, fun i hi => by have := (hpl i hi).2.1; omega, hset, hbase, fun i hi => ?_, fun i hi => ?_⟩
  · have := within_iff.1 (hns.2 i hi); omega
  · obtain ⟨b1, b2, b3⟩ := hng.2 i hi
    have c1 := within_iff.1 b1
    have c2 := within_iff.1 b2
    have c3 := within_iff.1 b3
    omega
end Pl
end Go.Proofs.YtokljdaofjgihaaGreatDoor
namespace Go.Proofs.YtokljdaofjgihaaGreatDoor
open Go.ChangeShapes Go.WideShapes Go.ChangeAt Go.RowKit Go.Sort
open Lib (decDigits)

theorem fin_zero (w : World) (o : Obj) (dk : Array UInt8) (k : Nat) : Below w.heap.size w ((putRow (fun (b : UInt8) => Value.int .u8 (b.toNat : Int)) (w.alloc o) w.heap.size 0 dk).drewN k) := by
  rw [alloc_eq_grow]
  obtain ⟨os', _, e⟩ := putRow_grow_new (fun (b : UInt8) => Value.int .u8 (b.toNat : Int)) w #[o] w.heap.size 0 dk (Nat.le_refl _)
  rw [e]
  exact below_grow w k os'
set_option maxHeartbeats 6400000 in
set_option maxRecDepth 100000 in
theorem ifmt_any (u : Nat) (hu64 : u < 18446744073709551616) (w : World) (htab : Pow w) :
    Calls Tryz.prog 70 #[.int .u64 (u : Int), .int .i64 10] w fun e w' => e = .returned (.string (ofL (decDigits u))) ∧ Below w.heap.size w w' := by
  by_cases hs : u < 100
  · have e1 : IntKind.i64.wrap (u : Int) = (u : Int) := by rw [IntKind.wrap_i64]; omega
    have HS := Lib.hid (fun W => Tryz.internal_strconv_small u hs W)
    clear hu64
    go_enter Tryz.func70, Tryz.ntmps70
    go_wp2_with fail
    (with_reducible refine (HS.out _).mono ?_)
    rintro e w' ⟨rfl, rfl⟩
    go_wp2_with fail
    go_ret
    exact ⟨rfl, Below.refl _ _⟩
  · have hu1 : 1 ≤ u := by omega
    have hnd20 : Lib.nDigits u ≤ 20 := by have := Lib.numDigits_eq u hu1 hu64; split at this <;> omega
    have hb3 : Lib.nDigits u ≤ 24 := by omega
    have hal : Tryz.prog.arrayLen 133 = 24 := by kernel_rfl
    have hsl2 : ∀ W, (Instr.sliceAt 133 (.pointer (some ⟨w.heap.size, 0, none⟩)) none (some (.int .i64 (Lib.nDigits u : Int))) none).run Tryz.prog W = .ok (.slice (some ⟨w.heap.size, 0, none⟩) (Lib.nDigits u) 24) W := fun W => by
      rw [run_sliceAt_array_h W 133 ⟨w.heap.size, 0, none⟩ (by kernel_rfl) .i64 (Lib.nDigits u : Int) (by omega) (by rw [hal]; omega)]
      go_simp
    have hH0 := Lib.holds_zero0 w 133 (Lib.nDigits u) (by omega)
    have hfmt := Tryz.internal_strconv_formatBase10 w.heap.size 0 24 u (Array.replicate (Lib.nDigits u) 0) (w.alloc (.cells Lib.zeros24 133)) hH0 (by rw [Array.size_replicate]; exact Lib.lt_pow_nDigits u) hu64 (by rw [Array.size_replicate]; omega)
    rw [Array.size_replicate] at hfmt
    have HH0 := Lib.hid hH0
    clear hH0 hal
    go_enter Tryz.func70, Tryz.ntmps70
    go_wp2_with fail
    refine (Any.internal_strconv_numDigits { Tryz.laysM171 with } u hu1 hu64 _ (Lib.tabIs_alloc htab _)).mono ?_
    rintro e w' ⟨rfl, rfl⟩
    go_wp2_with fail
    refine hfmt.mono ?_
    rintro e w' ⟨rfl, k, v', dk, rfl, hF⟩
    have hcv : (convert 123 9 (.slice (some ⟨w.heap.size, 0, none⟩) (Lib.nDigits u) 24)).run Tryz.prog ((putRow (fun (b : UInt8) => Value.int .u8 (b.toNat : Int)) (w.alloc (.cells Lib.zeros24 133)) w.heap.size 0 dk).drewN k) = .ok (.string ⟨(decDigits u).toArray⟩) ((putRow (fun (b : UInt8) => Value.int .u8 (b.toNat : Int)) (w.alloc (.cells Lib.zeros24 133)) w.heap.size 0 dk).drewN k) := by
      have h := run_convert_bytes_back (P := Tryz.prog) ((putRow (fun (b : UInt8) => Value.int .u8 (b.toNat : Int)) (w.alloc (.cells Lib.zeros24 133)) w.heap.size 0 dk).drewN k) 123 9 5 ⟨w.heap.size, 0, none⟩ 24 (decDigits u) Tryz.underlying123 Tryz.underlying5 Tryz.underlying9 (fun j hj => by
        rw [Lib.row_is_numeral hF j hj, Lib.add_plain, World.cell?_drewN]
        exact cell?_putRow (fun (b : UInt8) => Value.int .u8 (b.toNat : Int)) _ w.heap.size 0 _ dk HH0.out (by rw [hF.size, Array.size_replicate]) j (by rw [hF.size]; rw [Lib.decDigits_length] at hj; exact hj))
      rw [Lib.decDigits_length] at h
      exact h
    have HFZ := Lib.hid (fin_zero w (.cells Lib.zeros24 133) dk k)
    clear hF
    go_wp2_with fail
    go_ret
    exact ⟨rfl, HFZ.out⟩
theorem fmt_any (u : Nat) (hu64 : u < 18446744073709551616) (w : World) (htab : Pow w) :
    Calls Tryz.prog 41 #[.int .u64 (u : Int), .int .i64 10] w fun e w' => e = .returned (.string (ofL (decDigits u))) ∧ Below w.heap.size w w' := by
  have H := Lib.hid (ifmt_any u hu64 w htab)
  clear hu64 htab
  go_enter Tryz.func41, Tryz.ntmps41
  go_wp2_with fail
  (with_reducible refine H.out.mono ?_)
  rintro e w' ⟨rfl, hB⟩
  have HB := Lib.hid hB
  clear hB
  go_wp2_with fail
  go_ret
  exact ⟨rfl, HB.out⟩
end Go.Proofs.YtokljdaofjgihaaGreatDoor
namespace Go.Proofs.YtokljdaofjgihaaGreatDoor
open Go.ChangeShapes Go.WideShapes Go.ChangeAt Go.RowKit Go.Sort
open Lib (decDigits)
theorem itoa_big (n : Nat) (w : World) (hn : n ≤ 9223372036854775807) (hP : Pow w) :
    Calls Tryz.prog 40 #[.int .i64 (n : Int)] w fun e w' => e = .returned (.string (ofL (decDigits n))) ∧ Below w.heap.size w w' := by
  refine (Tryz.strconv_Itoa (n : Int) (by omega) (by omega) w hP).mono ?_
  rintro e w' ⟨rfl, k, os, rfl⟩
  rw [Lib.itoa_nonneg]
  exact ⟨rfl, below_grow w k os⟩
theorem pline2 (a b : List UInt8) (hl : (Pl.joinS [a, b]).length ≤ 999) (W0 : World) (t : TypeId) :
    Calls Tryz.prog 39 #[.slice (some ⟨W0.heap.size, 0, none⟩) 2 2] (W0.alloc (.cells #[.string (ofL a), .string (ofL b)] t)) fun e w' => e = .returned (.string (ofL (Pl.joinS [a, b] ++ [10]))) ∧ Below (W0.alloc (.cells #[.string (ofL a), .string (ofL b)] t)).heap.size (W0.alloc (.cells #[.string (ofL a), .string (ofL b)] t)) w' :=
  pline_any [a, b] W0.heap.size 2 _ (by simp) (fun j hj => by
    match j, hj with
    | 0, _ => simp
    | 1, _ => simp) (by simp) (by omega) (by simp)
theorem pline4 (a b c d : List UInt8) (hl : (Pl.joinS [a, b, c, d]).length ≤ 999) (W0 : World) (t : TypeId) :
    Calls Tryz.prog 39 #[.slice (some ⟨W0.heap.size, 0, none⟩) 4 4] (W0.alloc (.cells #[.string (ofL a), .string (ofL b), .string (ofL c), .string (ofL d)] t)) fun e w' => e = .returned (.string (ofL (Pl.joinS [a, b, c, d] ++ [10]))) ∧ Below (W0.alloc (.cells #[.string (ofL a), .string (ofL b), .string (ofL c), .string (ofL d)] t)).heap.size (W0.alloc (.cells #[.string (ofL a), .string (ofL b), .string (ofL c), .string (ofL d)] t)) w' :=
  pline_any [a, b, c, d] W0.heap.size 4 _ (by simp) (fun j hj => by
    match j, hj with
    | 0, _ => simp
    | 1, _ => simp
    | 2, _ => simp
    | 3, _ => simp) (by simp) (by omega) (by simp)
theorem pline5 (a b c d f : List UInt8) (hl : (Pl.joinS [a, b, c, d, f]).length ≤ 999) (W0 : World) (t : TypeId) :
    Calls Tryz.prog 39 #[.slice (some ⟨W0.heap.size, 0, none⟩) 5 5] (W0.alloc (.cells #[.string (ofL a), .string (ofL b), .string (ofL c), .string (ofL d), .string (ofL f)] t)) fun e w' => e = .returned (.string (ofL (Pl.joinS [a, b, c, d, f] ++ [10]))) ∧ Below (W0.alloc (.cells #[.string (ofL a), .string (ofL b), .string (ofL c), .string (ofL d), .string (ofL f)] t)).heap.size (W0.alloc (.cells #[.string (ofL a), .string (ofL b), .string (ofL c), .string (ofL d), .string (ofL f)] t)) w' :=
  pline_any [a, b, c, d, f] W0.heap.size 5 _ (by simp) (fun j hj => by
    match j, hj with
    | 0, _ => simp
    | 1, _ => simp
    | 2, _ => simp
    | 3, _ => simp
    | 4, _ => simp) (by simp) (by omega) (by simp)
theorem line_size {l : List UInt8} (h : l.length ≤ 999) : (ofL (l ++ [10])).size ≤ 1000 := by rw [ofL_size, List.length_append]; simp only [List.length_cons, List.length_nil]; omega
theorem len_work {p : Pl.Pol} (h : Pl.Fine p) : (Pl.joinS [Pl.wWork, decDigits p.work.toNat]).length ≤ 999 := by
  have h1 := h.work
  have h3 := dec_len20 (n := p.work.toNat) (by omega)
  simp only [Pl.joinS, List.length_append, List.length_cons, show Pl.wWork.length = 4 from rfl]
  omega
theorem len_give {p : Pl.Pol} (h : Pl.Fine p) : (Pl.joinS [Pl.wGive, decDigits p.give.toNat]).length ≤ 999 := by
  have h1 := h.give
  have h3 := dec_len20 (n := p.give.toNat) (by omega)
  simp only [Pl.joinS, List.length_append, List.length_cons, show Pl.wGive.length = 4 from rfl]
  omega
/-- the texts, by the program's lines -/
structure PrG (wk gv : Nat) (pl : List Pl.Plc) (sl : List Int) (gr : List Pl.Grn) (PR : Nat → ByteArray) : Prop where
  lw : (Pl.joinS [Pl.wWork, decDigits wk]).length ≤ 999
  lg : (Pl.joinS [Pl.wGive, decDigits gv]).length ≤ 999
  two : ofL (Pl.joinS [Pl.wWork, decDigits wk] ++ [10]) ++ ofL (Pl.joinS [Pl.wGive, decDigits gv] ++ [10]) = PR 2
  place : ∀ k, k < pl.length → PR (2 + k) ++ ofL (Pl.joinS [Pl.wLabel, (Pl.plc pl k).name, Lat.textL (Pl.plc pl k).lv (Pl.plc pl k).set, decDigits (Pl.plc pl k).bytes.toNat, decDigits (Pl.plc pl k).base] ++ [10]) = PR (2 + (k + 1))
  lp : ∀ k, k < pl.length → (Pl.joinS [Pl.wLabel, (Pl.plc pl k).name, Lat.textL (Pl.plc pl k).lv (Pl.plc pl k).set, decDigits (Pl.plc pl k).bytes.toNat, decDigits (Pl.plc pl k).base]).length ≤ 999
  slot : ∀ k, k < sl.length → PR (2 + pl.length + k) ++ ofL (Pl.joinS [Pl.wSlot, (Pl.plc pl (sl.getD k 0).toNat).name] ++ [10]) = PR (2 + pl.length + (k + 1))
  ls : ∀ k, k < sl.length → (Pl.joinS [Pl.wSlot, (Pl.plc pl (sl.getD k 0).toNat).name]).length ≤ 999
  grant : ∀ k, k < gr.length → PR (2 + pl.length + sl.length + k) ++ ofL (Pl.joinS [Pl.wGrant, (Pl.plc pl (Pl.grn gr k).fr.toNat).name, (Pl.plc pl (Pl.grn gr k).to.toNat).name, decDigits (Pl.grn gr k).bud.toNat] ++ [10]) = PR (2 + pl.length + sl.length + (k + 1))
  lgr : ∀ k, k < gr.length → (Pl.joinS [Pl.wGrant, (Pl.plc pl (Pl.grn gr k).fr.toNat).name, (Pl.plc pl (Pl.grn gr k).to.toNat).name, decDigits (Pl.grn gr k).bud.toNat]).length ≤ 999
theorem prg_of (wk gv : Nat) (pl : List Pl.Plc) (sl : List Int) (gr : List Pl.Grn) (hF : Pl.Fine ⟨wk, gv, pl, sl, gr⟩) : PrG wk gv pl sl gr (fun m => ofL (Pl.pre ⟨wk, gv, pl, sl, gr⟩ m)) :=
  ⟨len_work hF, len_give hF, (ofL_app _ _).trans (congrArg ofL (Pl.pre_two ⟨wk, gv, pl, sl, gr⟩).symm),
   fun _ h => (ofL_app _ _).trans (congrArg ofL (Pl.pre_place (p := ⟨wk, gv, pl, sl, gr⟩) h).symm), fun _ h => Pl.len_place (p := ⟨wk, gv, pl, sl, gr⟩) hF h,
   fun _ h => (ofL_app _ _).trans (congrArg ofL (Pl.pre_slot (p := ⟨wk, gv, pl, sl, gr⟩) h).symm), fun _ h => Pl.len_slot (p := ⟨wk, gv, pl, sl, gr⟩) hF h,
   fun _ h => (ofL_app _ _).trans (congrArg ofL (Pl.pre_grant (p := ⟨wk, gv, pl, sl, gr⟩) h).symm), fun _ h => Pl.len_grant (p := ⟨wk, gv, pl, sl, gr⟩) hF h⟩
end Go.Proofs.YtokljdaofjgihaaGreatDoor
namespace Go.Proofs.YtokljdaofjgihaaGreatDoor
open Go.ChangeShapes Go.WideShapes Go.ChangeAt Go.RowKit
open Lib (decDigits)
abbrev RpS (b : Nat) (nm : ByteArray) (lv st bt bs : Nat) (w0 W : World) : Prop :=
  (W.cell? ⟨b, 0, none⟩ = some (.string nm) ∧ W.cell? ⟨b, 1, none⟩ = some (.int .u8 (lv : Int)) ∧ W.cell? ⟨b, 2, none⟩ = some (.int .u32 (st : Int)) ∧ W.cell? ⟨b, 3, none⟩ = some (.int .i64 (bt : Int)) ∧ W.cell? ⟨b, 4, none⟩ = some (.int .u64 (bs : Int)) ∧ b < W.heap.size) ∧ Below w0.heap.size w0 W
abbrev R1S (b : Nat) (wk gv : Nat) (w0 W : World) : Prop := (W.cell? ⟨b, 0, none⟩ = some (.int .i64 (wk : Int)) ∧ W.cell? ⟨b, 1, none⟩ = some (.int .i64 (gv : Int))) ∧ w0 = W
abbrev R15S (g g0 bp op nf nt bd np pc : Nat) (sf st : ByteArray) (w0 W : World) : Prop :=
  (W.cell? ⟨g0, 2, none⟩ = some (.slice (some ⟨bp, op, none⟩) np pc) ∧ W.cell? ⟨g, 0, none⟩ = some (.int .i64 (nf : Int)) ∧ W.cell? ⟨g, 1, none⟩ = some (.int .i64 (nt : Int)) ∧ W.cell? ⟨g, 2, none⟩ = some (.int .i64 (bd : Int)) ∧ W.cell? ⟨bp, op + nf * 5, none⟩ = some (.string sf) ∧ W.cell? ⟨bp, op + nt * 5, none⟩ = some (.string st)) ∧ w0 = W
theorem RpS.on {b : Nat} {nm : ByteArray} {lv st bt bs : Nat} {w0 W W' : World} (h : RpS b nm lv st bt bs w0 W) (hb : Below W.heap.size W W') : RpS b nm lv st bt bs w0 W' := by
  obtain ⟨⟨h0, h1, h2, h3, h4, h5⟩, h6⟩ := h
  exact ⟨⟨(hb.cell (p := ⟨b, 0, none⟩) h5).trans h0, (hb.cell (p := ⟨b, 1, none⟩) h5).trans h1, (hb.cell (p := ⟨b, 2, none⟩) h5).trans h2, (hb.cell (p := ⟨b, 3, none⟩) h5).trans h3, (hb.cell (p := ⟨b, 4, none⟩) h5).trans h4, Nat.lt_of_lt_of_le h5 hb.size⟩, h6.trans (hb.mono h6.size)⟩
/-- what the loops keep -/
def RpL (wk gv : Nat) (pl : List Pl.Plc) (sl : List Int) (gr : List Pl.Grn) (pa : Option Addr) (pc : Nat) (sa : Option Addr) (sc : Nat) (ga : Option Addr) (gc : Nat) (PR : Nat → ByteArray) (w : World) (g0 n : Nat) (g : Nat) (s i : Value) (wr : World) : Prop :=
  ∃ k : Nat, k + g = n ∧ i = .int .i64 (k : Int) ∧ s = .string (PR (g0 + k)) ∧ Cell5 wr w.heap.size (.int .i64 wk) (.int .i64 gv) (.slice pa pl.length pc) (.slice sa sl.length sc) (.slice ga gr.length gc) ∧ PolIs wr ⟨wk, gv, pl, sl, gr⟩ pa pc sa sc ga gc ∧ Below w.heap.size w wr
theorem RpL.next {wk gv : Nat} {pl : List Pl.Plc} {sl : List Int} {gr : List Pl.Grn} {pa : Option Addr} {pc : Nat} {sa : Option Addr} {sc : Nat} {ga : Option Addr} {gc : Nat} {PR : Nat → ByteArray} {w : World} {g0 n g k : Nat} {wr w' : World} (hk : k + g = n) (hg : 0 < g)
    (hc : Cell5 wr w.heap.size (.int .i64 wk) (.int .i64 gv) (.slice pa pl.length pc) (.slice sa sl.length sc) (.slice ga gr.length gc)) (hi : PolIs wr ⟨wk, gv, pl, sl, gr⟩ pa pc sa sc ga gc) (hb : Below w.heap.size w wr) (hw : Below wr.heap.size wr w') : RpL wk gv pl sl gr pa pc sa sc ga gc PR w g0 n (g - 1) (.string (PR (g0 + (k + 1)))) (.int .i64 ((k : Int) + 1)) w' :=
  ⟨k + 1, by omega, by rw [Int.natCast_add]; rfl, rfl, hc.on hw, hi.on hw, bthen hb hw (Nat.le_refl _)⟩
set_option maxRecDepth 100000 in
set_option maxHeartbeats 16000000 in
theorem rprint_core (wk gv : Nat) (pl : List Pl.Plc) (sl : List Int) (gr : List Pl.Grn) (pa : Option Addr) (pc : Nat) (sa : Option Addr) (sc : Nat) (ga : Option Addr) (gc : Nat) (PR : Nat → ByteArray) (T : ByteArray) (w : World) (hp : PolIs w ⟨wk, gv, pl, sl, gr⟩ pa pc sa sc ga gc) (hF : PrF wk gv pl sl gr PR T) :
    Calls Tryz.prog 18 #[.agg #[.int .i64 wk, .int .i64 gv, .slice pa pl.length pc, .slice sa sl.length sc, .slice ga gr.length gc]] w fun e w' => e = .returned (.string T) ∧ Below w.heap.size w w' := by
  have hal : Below w.heap.size w (w.alloc (.cells #[.int .i64 wk, .int .i64 gv, .slice pa pl.length pc, .slice sa sl.length sc, .slice ga gr.length gc] 32)) := (Below.refl _ _).alloc (Nat.le_refl _) _
  have HI := Lib.hid (hp.on hal)
  have HA := Lib.hid hal
  have HC := Lib.hid (Cell5.new w (.int .i64 wk) (.int .i64 gv) (.slice pa pl.length pc) (.slice sa sl.length sc) (.slice ga gr.length gc) 32)
  have HF := Lib.hid hF
  have HT2 := Lib.hid hF.two
  have HALL := Lib.hid hF.all
  have hw1 : (wk : Int) ≤ 16 := hF.fine.work.2
  have hw2 : (gv : Int) ≤ 16 := hF.fine.give.2
  have hnp : pl.length ≤ 1000 := hF.fine.np
  have hns : sl.length ≤ 1000 := hF.fine.ns
  have hng : gr.length ≤ 1000 := hF.fine.ng
  have HDW := Lib.hid (fun W => rdig_any wk (by omega) W)
  have HDG := Lib.hid (fun W => rdig_any gv (by omega) W)
  have e1 : IntKind.u64.wrap (wk : Int) = (wk : Int) := by rw [IntKind.wrap_u64]; omega
  have e2 : IntKind.u64.wrap (gv : Int) = (gv : Int) := by rw [IntKind.wrap_u64]; omega
  have z1 : (ofL (decDigits wk)).size ≤ 20 := by rw [ofL_size]; exact dec_len20 (by omega)
  have z2 : (ofL (decDigits gv)).size ≤ 20 := by rw [ofL_size]; exact dec_len20 (by omega)
  clear hp hF hal
  obtain ⟨c0, c1, c2, c3, c4⟩ := HC.out
  generalize hdw : ofL (decDigits wk) = dw at *
  generalize hdg : ofL (decDigits gv) = dg at *
  clear hdw hdg
  go_enter Tryz.func18, Tryz.ntmps18
  go_upto_region 1 with fail
  generalize hwq : w.alloc (.cells #[.int .i64 wk, .int .i64 gv, .slice pa pl.length pc, .slice sa sl.length sc, .slice ga gr.length gc] 32) = wq at *
  have HX := Lib.hid (show R1S w.heap.size wk gv wq.drew wq.drew from ⟨⟨c0, c1⟩, rfl⟩)
  go_cut [3] (fun s3 wx => s3 = .string (PR 2) ∧ Cell5 wx w.heap.size (.int .i64 wk) (.int .i64 gv) (.slice pa pl.length pc) (.slice sa sl.length sc) (.slice ga gr.length gc) ∧ PolIs wx ⟨wk, gv, pl, sl, gr⟩ pa pc sa sc ga gc ∧ Below w.heap.size w wx)
  case first =>
    refine wp_region_noPanic ?_
    refine wp_region_held_drew (S := R1S w.heap.size wk gv wq.drew) (by kernel_rfl) ?_ (fun hHeld => ?_)
    · (try dsimp only); (first | assumption | exact HX.out)
    refine wpAnyH_take (i := 0) (v := ?_) rfl (by kernel_rfl) (by kernel_rfl) (by kernel_rfl) (fun _ _ _ h => h) (Or.inl ⟨by rfl, ?_⟩) (by assumption) ?_
    rotate_left
    · intro w hSw; (try dsimp only at hSw); go_simp; (try rw [if_neg (by first | omega | (simp [ByteArray.size_append]; omega))]); try with_reducible rfl
    (try simp only [List.getElem_toArray, List.getElem_cons_zero, Act.put, List.setIfInBounds_toArray, List.set_cons_zero, List.set_cons_succ])
    refine wpAnyH_take (i := 1) (v := ?_) rfl (by kernel_rfl) (by kernel_rfl) (by kernel_rfl) (fun _ _ _ h => h) (Or.inl ⟨by rfl, ?_⟩) (by assumption) ?_
    rotate_left
    · intro w hSw; (try dsimp only at hSw); go_simp; (try rw [if_neg (by first | omega | (simp [ByteArray.size_append]; omega))]); try with_reducible rfl
    (try simp only [List.getElem_toArray, List.getElem_cons_succ, List.getElem_cons_zero, Act.put, List.setIfInBounds_toArray, List.set_cons_zero, List.set_cons_succ])
    refine wpAnyH_take (i := 2) (v := ?_) rfl (by kernel_rfl) (by kernel_rfl) (by kernel_rfl) (fun _ _ _ h => h) (Or.inl ⟨by rfl, ?_⟩) (by assumption) ?_
    rotate_left
    · intro w hSw; (try dsimp only at hSw); go_simp; (try rw [if_neg (by first | omega | (simp [ByteArray.size_append]; omega))]); try with_reducible rfl
    (try simp only [List.getElem_toArray, List.getElem_cons_succ, List.getElem_cons_zero, Act.put, List.setIfInBounds_toArray, List.set_cons_zero, List.set_cons_succ])
    refine wpAnyH_take (i := 6) (v := ?_) rfl (by kernel_rfl) (by kernel_rfl) (by kernel_rfl) (fun _ _ _ h => h) (Or.inl ⟨by rfl, ?_⟩) (by assumption) ?_
    rotate_left
    · intro w hSw; (try dsimp only at hSw); go_simp; (try rw [if_neg (by first | omega | (simp [ByteArray.size_append]; omega))]); try with_reducible rfl
    (try simp only [List.getElem_toArray, List.getElem_cons_succ, List.getElem_cons_zero, Act.put, List.setIfInBounds_toArray, List.set_cons_zero, List.set_cons_succ])
    refine wpAnyH_take (i := 7) (v := ?_) rfl (by kernel_rfl) (by kernel_rfl) (by kernel_rfl) (fun _ _ _ h => h) (Or.inl ⟨by rfl, ?_⟩) (by assumption) ?_
    rotate_left
    · intro w hSw; (try dsimp only at hSw); go_simp; (try rw [if_neg (by first | omega | (simp [ByteArray.size_append]; omega))]); try with_reducible rfl
    (try simp only [List.getElem_toArray, List.getElem_cons_succ, List.getElem_cons_zero, Act.put, List.setIfInBounds_toArray, List.set_cons_zero, List.set_cons_succ])
    refine wpAnyH_take (i := 8) (v := ?_) rfl (by kernel_rfl) (by kernel_rfl) (by kernel_rfl) (fun _ _ _ h => h) (Or.inl ⟨by rfl, ?_⟩) (by assumption) ?_
    rotate_left
    · intro w hSw; (try dsimp only at hSw); go_simp; (try rw [if_neg (by first | omega | (simp [ByteArray.size_append]; omega))]); try with_reducible rfl
    (try simp only [List.getElem_toArray, List.getElem_cons_succ, List.getElem_cons_zero, Act.put, List.setIfInBounds_toArray, List.set_cons_zero, List.set_cons_succ])
    refine wpAnyH_ready (rs := [3]) (by kernel_rfl) (by simp) ?_
    refine AllReadyH.cons rfl (fun K hK => ?_) (AllReadyH.nil)
    · go_simp
      (go_at_call 52; ((with_reducible refine (HDW.out _).mono ?_); rintro e' wz2 ⟨rfl, rfl⟩))
      refine hK.out _ _ ?_ (fun hHeld => ?_)
      · (try dsimp only); (first | assumption | exact HX.out)
      clear hK K
      (try simp only [List.getElem_toArray, List.getElem_cons_succ, List.getElem_cons_zero, Act.put, List.setIfInBounds_toArray, List.set_cons_zero, List.set_cons_succ])
      refine wpAnyH_take (i := 4) (v := ?_) rfl (by kernel_rfl) (by kernel_rfl) (by kernel_rfl) (fun _ _ _ h => h) (Or.inl ⟨by rfl, ?_⟩) (by assumption) ?_
      rotate_left
      · intro w hSw; (try dsimp only at hSw); go_simp; (try rw [if_neg (by first | omega | (simp [ByteArray.size_append]; omega))]); try with_reducible rfl
      (try simp only [List.getElem_toArray, List.getElem_cons_succ, List.getElem_cons_zero, Act.put, List.setIfInBounds_toArray, List.set_cons_zero, List.set_cons_succ])
      refine wpAnyH_take (i := 5) (v := ?_) rfl (by kernel_rfl) (by kernel_rfl) (by kernel_rfl) (fun _ _ _ h => h) (Or.inl ⟨by rfl, ?_⟩) (by assumption) ?_
      rotate_left
      · intro w hSw; (try dsimp only at hSw); go_simp; (try rw [if_neg (by first | omega | (simp [ByteArray.size_append]; omega))]); try with_reducible rfl
      (try simp only [List.getElem_toArray, List.getElem_cons_succ, List.getElem_cons_zero, Act.put, List.setIfInBounds_toArray, List.set_cons_zero, List.set_cons_succ])
      refine wpAnyH_ready (rs := [9]) (by kernel_rfl) (by simp) ?_
      refine AllReadyH.cons rfl (fun K hK => ?_) (AllReadyH.nil)
      · go_simp
        (go_at_call 52; ((with_reducible refine (HDG.out _).mono ?_); rintro e' wz3 ⟨rfl, rfl⟩))
        refine hK.out _ _ ?_ (fun hHeld => ?_)
        · (try dsimp only); (first | assumption | exact HX.out)
        clear hK K
        (try simp only [List.getElem_toArray, List.getElem_cons_succ, List.getElem_cons_zero, Act.put, List.setIfInBounds_toArray, List.set_cons_zero, List.set_cons_succ])
        refine wpAnyH_take (i := 10) (v := ?_) rfl (by kernel_rfl) (by kernel_rfl) (by kernel_rfl) (fun _ _ _ h => h) (Or.inl ⟨by rfl, ?_⟩) (by assumption) ?_
        rotate_left
        · intro w hSw; (try dsimp only at hSw); go_simp; (try rw [if_neg (by first | omega | (simp [ByteArray.size_append]; omega))]); try with_reducible rfl
        (try simp only [List.getElem_toArray, List.getElem_cons_succ, List.getElem_cons_zero, Act.put, List.setIfInBounds_toArray, List.set_cons_zero, List.set_cons_succ])
        refine wpAnyH_take (i := 11) (v := ?_) rfl (by kernel_rfl) (by kernel_rfl) (by kernel_rfl) (fun _ _ _ h => h) (Or.inl ⟨by rfl, ?_⟩) (by assumption) ?_
        rotate_left
        · intro w hSw; (try dsimp only at hSw); go_simp; (try rw [if_neg (by first | omega | (simp [ByteArray.size_append]; omega))]); try with_reducible rfl
        (try simp only [List.getElem_toArray, List.getElem_cons_succ, List.getElem_cons_zero, Act.put, List.setIfInBounds_toArray, List.set_cons_zero, List.set_cons_succ])
        refine wpAnyH_take (i := 12) (v := ?_) rfl (by kernel_rfl) (by kernel_rfl) (by kernel_rfl) (fun _ _ _ h => h) (Or.inl ⟨by rfl, ?_⟩) (by assumption) ?_
        rotate_left
        · intro w hSw; (try dsimp only at hSw); go_simp; (try rw [if_neg (by first | omega | (simp [ByteArray.size_append]; omega))]); try with_reducible rfl
        (try simp only [List.getElem_toArray, List.getElem_cons_succ, List.getElem_cons_zero, Act.put, List.setIfInBounds_toArray, List.set_cons_zero, List.set_cons_succ])
        refine wpAnyH_done (by kernel_rfl) ?_ _
        refine NoPanic.normal ?_
        rw [HT2.out]
        clear hHeld
        go_wp2_with fail
        go_meet
        exact ⟨rfl, HC.out.on (Below.refl _ _).drew, HI.out.on (Below.refl _ _).drew, HA.out.drew⟩
  case rest =>
  obtain ⟨rfl, hY, hI, hB⟩ := hcut
  have HY := Lib.hid hY
  have HI0 := Lib.hid hI
  have HB0 := Lib.hid hB
  clear HX HT2 HDW HDG e1 e2 z1 z2 hw1 hw2 c0 c1 c2 c3 c4 HC HI HA hI hB
  obtain ⟨c0, c1, c2, c3, c4⟩ := hY
  go_wp2_with fail
  go_loopg [3, 25] pl.length (fun g s i wr => RpL wk gv pl sl gr pa pc sa sc ga gc PR w 2 pl.length g s i wr)
  case atStart => exact ⟨0, by omega, rfl, rfl, HY.out, HI0.out, HB0.out⟩
  case round =>
    clear c0 c1 c2 c3 c4
    obtain ⟨k, hk, rfl, rfl, hc, hi, hb⟩ := hrel
    have HC1 := Lib.hid hc
    have HI1 := Lib.hid hi
    have HB1 := Lib.hid hb
    have HK := Lib.hid hk
    clear hc hi hb hk
    by_cases hlt : k < pl.length
    · obtain ⟨b, off, rfl, hbl, hfit, hat⟩ := HI1.out.pl.at_ k hlt
      obtain ⟨a0, a1, a2, a3, a4⟩ := hat
      have HS := Lib.hid (HF.out.place k hlt)
      have hsz := HF.out.psz k (by omega)
      have hnm : (Pl.plc pl k).name.length ≤ 16 := HF.out.fine.name k hlt
      have hby : 0 ≤ (Pl.plc pl k).bytes ∧ (Pl.plc pl k).bytes ≤ 9223372036854775807 := HF.out.fine.bytes k hlt
      have hlv : (Pl.plc pl k).lv < 256 := HF.out.fine.lv k hlt
      have hbs : (Pl.plc pl k).base < 18446744073709551616 := HF.out.fine.base k hlt
      generalize Pl.plc pl k = x at *
      obtain ⟨nml, lv, st, bt, bs⟩ := x
      simp only at a0 a1 a2 a3 a4 HS hnm hby hlv hbs
      obtain ⟨bt, rfl⟩ := Int.eq_ofNat_of_zero_le hby.1
      rw [show ((bt : Nat) : Int).toNat = bt from rfl] at HS
      have HT := Lib.hid (fun W => rtext_any lv st W hlv)
      have HD1 := Lib.hid (fun W => rdig_any bt (by omega) W)
      have HD2 := Lib.hid (fun W => rdig_any bs hbs W)
      have y1 : IntKind.u64.wrap (bt : Int) = (bt : Int) := by rw [IntKind.wrap_u64]; omega
      have y2 : (ofL nml).size ≤ 16 := by rw [ofL_size]; exact hnm
      have y3 : (ofL (Lat.textL lv st)).size ≤ 99 := by rw [ofL_size]; exact Pl.text_len' lv st hlv
      have y4 : (ofL (decDigits bt)).size ≤ 20 := by rw [ofL_size]; exact dec_len20 (by omega)
      have y5 : (ofL (decDigits bs)).size ≤ 20 := by rw [ofL_size]; exact dec_len20 hbs
      clear hfit hnm hby hlv hbs
      generalize ofL nml = nm at *
      generalize ofL (Lat.textL lv st) = tx at *
      generalize ofL (decDigits bt) = d1 at *
      generalize ofL (decDigits bs) = d2 at *
      generalize PR (2 + k) = s at *
      generalize hs' : PR (2 + (k + 1)) = s' at *
      go_upto_region 5 with fail
      have hX0 : RpS wr.heap.size nm lv st bt bs (wr.alloc (.cells #[.string nm, .int .u8 (lv : Int), .int .u32 (st : Int), .int .i64 (bt : Int), .int .u64 (bs : Int)] 73)) (wr.alloc (.cells #[.string nm, .int .u8 (lv : Int), .int .u32 (st : Int), .int .i64 (bt : Int), .int .u64 (bs : Int)] 73)) := ⟨⟨by simp, by simp, by simp, by simp, by simp, by simp⟩, Below.refl _ _⟩
      have HBX := Lib.hid (show Below wr.heap.size wr (wr.alloc (.cells #[.string nm, .int .u8 (lv : Int), .int .u32 (st : Int), .int .i64 (bt : Int), .int .u64 (bs : Int)] 73)) from (Below.refl _ _).alloc (Nat.le_refl _) _)
      generalize wr.alloc (.cells #[.string nm, .int .u8 (lv : Int), .int .u32 (st : Int), .int .i64 (bt : Int), .int .u64 (bs : Int)] 73) = wq at *
      have HX := Lib.hid (hX0.on (Below.refl _ _).drew)
      clear hX0 a0 a1 a2 a3 a4
      generalize hg : wr.heap.size = g at *
      refine wp_region_noPanic ?_
      refine wp_region_held_drew (S := RpS g nm lv st bt bs wq) (by kernel_rfl) ?_ (fun hHeld => ?_)
      · (try dsimp only); (first | assumption | exact HX.out | exact RpS.on (by assumption) hb2)
      refine wpAnyH_take (i := 0) (v := ?_) rfl (by kernel_rfl) (by kernel_rfl) (by kernel_rfl) (fun _ _ _ h => h) (Or.inl ⟨by rfl, ?_⟩) (by assumption) ?_
      rotate_left
      · intro w hSw; (try dsimp only at hSw); go_simp; (try rw [if_neg (by first | omega | (simp [ByteArray.size_append]; omega))]); try with_reducible rfl
      (try simp only [List.getElem_toArray, List.getElem_cons_zero, Act.put, List.setIfInBounds_toArray, List.set_cons_zero, List.set_cons_succ])
      refine wpAnyH_take (i := 1) (v := ?_) rfl (by kernel_rfl) (by kernel_rfl) (by kernel_rfl) (fun _ _ _ h => h) (Or.inl ⟨by rfl, ?_⟩) (by assumption) ?_
      rotate_left
      · intro w hSw; (try dsimp only at hSw); go_simp; (try rw [if_neg (by first | omega | (simp [ByteArray.size_append]; omega))]); try with_reducible rfl
      (try simp only [List.getElem_toArray, List.getElem_cons_succ, List.getElem_cons_zero, Act.put, List.setIfInBounds_toArray, List.set_cons_zero, List.set_cons_succ])
      refine wpAnyH_take (i := 2) (v := ?_) rfl (by kernel_rfl) (by kernel_rfl) (by kernel_rfl) (fun _ _ _ h => h) (Or.inl ⟨by rfl, ?_⟩) (by assumption) ?_
      rotate_left
      · intro w hSw; (try dsimp only at hSw); go_simp; (try rw [if_neg (by first | omega | (simp [ByteArray.size_append]; omega))]); try with_reducible rfl
      (try simp only [List.getElem_toArray, List.getElem_cons_succ, List.getElem_cons_zero, Act.put, List.setIfInBounds_toArray, List.set_cons_zero, List.set_cons_succ])
      refine wpAnyH_take (i := 3) (v := ?_) rfl (by kernel_rfl) (by kernel_rfl) (by kernel_rfl) (fun _ _ _ h => h) (Or.inl ⟨by rfl, ?_⟩) (by assumption) ?_
      rotate_left
      · intro w hSw; (try dsimp only at hSw); go_simp; (try rw [if_neg (by first | omega | (simp [ByteArray.size_append]; omega))]); try with_reducible rfl
      (try simp only [List.getElem_toArray, List.getElem_cons_succ, List.getElem_cons_zero, Act.put, List.setIfInBounds_toArray, List.set_cons_zero, List.set_cons_succ])
      refine wpAnyH_take (i := 4) (v := ?_) rfl (by kernel_rfl) (by kernel_rfl) (by kernel_rfl) (fun _ _ _ h => h) (Or.inl ⟨by rfl, ?_⟩) (by assumption) ?_
      rotate_left
      · intro w hSw; (try dsimp only at hSw); go_simp; (try rw [if_neg (by first | omega | (simp [ByteArray.size_append]; omega))]); try with_reducible rfl
      (try simp only [List.getElem_toArray, List.getElem_cons_succ, List.getElem_cons_zero, Act.put, List.setIfInBounds_toArray, List.set_cons_zero, List.set_cons_succ])
      refine wpAnyH_take (i := 5) (v := ?_) rfl (by kernel_rfl) (by kernel_rfl) (by kernel_rfl) (fun _ _ _ h => h) (Or.inl ⟨by rfl, ?_⟩) (by assumption) ?_
      rotate_left
      · intro w hSw; (try dsimp only at hSw); go_simp; (try rw [if_neg (by first | omega | (simp [ByteArray.size_append]; omega))]); try with_reducible rfl
      (try simp only [List.getElem_toArray, List.getElem_cons_succ, List.getElem_cons_zero, Act.put, List.setIfInBounds_toArray, List.set_cons_zero, List.set_cons_succ])
      refine wpAnyH_take (i := 6) (v := ?_) rfl (by kernel_rfl) (by kernel_rfl) (by kernel_rfl) (fun _ _ _ h => h) (Or.inl ⟨by rfl, ?_⟩) (by assumption) ?_
      rotate_left
      · intro w hSw; (try dsimp only at hSw); go_simp; (try rw [if_neg (by first | omega | (simp [ByteArray.size_append]; omega))]); try with_reducible rfl
      (try simp only [List.getElem_toArray, List.getElem_cons_succ, List.getElem_cons_zero, Act.put, List.setIfInBounds_toArray, List.set_cons_zero, List.set_cons_succ])
      refine wpAnyH_take (i := 7) (v := ?_) rfl (by kernel_rfl) (by kernel_rfl) (by kernel_rfl) (fun _ _ _ h => h) (Or.inl ⟨by rfl, ?_⟩) (by assumption) ?_
      rotate_left
      · intro w hSw; (try dsimp only at hSw); go_simp; (try rw [if_neg (by first | omega | (simp [ByteArray.size_append]; omega))]); try with_reducible rfl
      (try simp only [List.getElem_toArray, List.getElem_cons_succ, List.getElem_cons_zero, Act.put, List.setIfInBounds_toArray, List.set_cons_zero, List.set_cons_succ])
      refine wpAnyH_take (i := 11) (v := ?_) rfl (by kernel_rfl) (by kernel_rfl) (by kernel_rfl) (fun _ _ _ h => h) (Or.inl ⟨by rfl, ?_⟩) (by assumption) ?_
      rotate_left
      · intro w hSw; (try dsimp only at hSw); go_simp; (try rw [if_neg (by first | omega | (simp [ByteArray.size_append]; omega))]); try with_reducible rfl
      (try simp only [List.getElem_toArray, List.getElem_cons_succ, List.getElem_cons_zero, Act.put, List.setIfInBounds_toArray, List.set_cons_zero, List.set_cons_succ])
      refine wpAnyH_take (i := 12) (v := ?_) rfl (by kernel_rfl) (by kernel_rfl) (by kernel_rfl) (fun _ _ _ h => h) (Or.inl ⟨by rfl, ?_⟩) (by assumption) ?_
      rotate_left
      · intro w hSw; (try dsimp only at hSw); go_simp; (try rw [if_neg (by first | omega | (simp [ByteArray.size_append]; omega))]); try with_reducible rfl
      (try simp only [List.getElem_toArray, List.getElem_cons_succ, List.getElem_cons_zero, Act.put, List.setIfInBounds_toArray, List.set_cons_zero, List.set_cons_succ])
      refine wpAnyH_take (i := 13) (v := ?_) rfl (by kernel_rfl) (by kernel_rfl) (by kernel_rfl) (fun _ _ _ h => h) (Or.inl ⟨by rfl, ?_⟩) (by assumption) ?_
      rotate_left
      · intro w hSw; (try dsimp only at hSw); go_simp; (try rw [if_neg (by first | omega | (simp [ByteArray.size_append]; omega))]); try with_reducible rfl
      (try simp only [List.getElem_toArray, List.getElem_cons_succ, List.getElem_cons_zero, Act.put, List.setIfInBounds_toArray, List.set_cons_zero, List.set_cons_succ])
      refine wpAnyH_take (i := 17) (v := ?_) rfl (by kernel_rfl) (by kernel_rfl) (by kernel_rfl) (fun _ _ _ h => h) (Or.inl ⟨by rfl, ?_⟩) (by assumption) ?_
      rotate_left
      · intro w hSw; (try dsimp only at hSw); go_simp; (try rw [if_neg (by first | omega | (simp [ByteArray.size_append]; omega))]); try with_reducible rfl
      (try simp only [List.getElem_toArray, List.getElem_cons_succ, List.getElem_cons_zero, Act.put, List.setIfInBounds_toArray, List.set_cons_zero, List.set_cons_succ])
      refine wpAnyH_take (i := 18) (v := ?_) rfl (by kernel_rfl) (by kernel_rfl) (by kernel_rfl) (fun _ _ _ h => h) (Or.inl ⟨by rfl, ?_⟩) (by assumption) ?_
      rotate_left
      · intro w hSw; (try dsimp only at hSw); go_simp; (try rw [if_neg (by first | omega | (simp [ByteArray.size_append]; omega))]); try with_reducible rfl
      (try simp only [List.getElem_toArray, List.getElem_cons_succ, List.getElem_cons_zero, Act.put, List.setIfInBounds_toArray, List.set_cons_zero, List.set_cons_succ])
      refine wpAnyH_ready (rs := [8]) (by kernel_rfl) (by simp) ?_
      refine AllReadyH.cons rfl (fun K hK => ?_) (AllReadyH.nil)
      · go_simp
        (go_at_call 53; ((with_reducible refine (HT.out _).mono ?_); rintro e' wz ⟨rfl, hb2⟩))
        refine hK.out _ _ ?_ (fun hHeld => ?_)
        · (try dsimp only); (first | assumption | exact HX.out | exact RpS.on (by assumption) hb2)
        clear hK K
        (try simp only [List.getElem_toArray, List.getElem_cons_succ, List.getElem_cons_zero, Act.put, List.setIfInBounds_toArray, List.set_cons_zero, List.set_cons_succ])
        refine wpAnyH_take (i := 9) (v := ?_) rfl (by kernel_rfl) (by kernel_rfl) (by kernel_rfl) (fun _ _ _ h => h) (Or.inl ⟨by rfl, ?_⟩) (by assumption) ?_
        rotate_left
        · intro w hSw; (try dsimp only at hSw); go_simp; (try rw [if_neg (by first | omega | (simp [ByteArray.size_append]; omega))]); try with_reducible rfl
        (try simp only [List.getElem_toArray, List.getElem_cons_succ, List.getElem_cons_zero, Act.put, List.setIfInBounds_toArray, List.set_cons_zero, List.set_cons_succ])
        refine wpAnyH_take (i := 10) (v := ?_) rfl (by kernel_rfl) (by kernel_rfl) (by kernel_rfl) (fun _ _ _ h => h) (Or.inl ⟨by rfl, ?_⟩) (by assumption) ?_
        rotate_left
        · intro w hSw; (try dsimp only at hSw); go_simp; (try rw [if_neg (by first | omega | (simp [ByteArray.size_append]; omega))]); try with_reducible rfl
        (try simp only [List.getElem_toArray, List.getElem_cons_succ, List.getElem_cons_zero, Act.put, List.setIfInBounds_toArray, List.set_cons_zero, List.set_cons_succ])
        refine wpAnyH_ready (rs := [14]) (by kernel_rfl) (by simp) ?_
        refine AllReadyH.cons rfl (fun K hK => ?_) (AllReadyH.nil)
        · go_simp
          (go_at_call 52; ((with_reducible refine (HD1.out _).mono ?_); rintro e' wz2 ⟨rfl, rfl⟩))
          refine hK.out _ _ ?_ (fun hHeld => ?_)
          · (try dsimp only); (first | assumption | exact HX.out | exact RpS.on (by assumption) hb2)
          clear hK K
          (try simp only [List.getElem_toArray, List.getElem_cons_succ, List.getElem_cons_zero, Act.put, List.setIfInBounds_toArray, List.set_cons_zero, List.set_cons_succ])
          refine wpAnyH_take (i := 15) (v := ?_) rfl (by kernel_rfl) (by kernel_rfl) (by kernel_rfl) (fun _ _ _ h => h) (Or.inl ⟨by rfl, ?_⟩) (by assumption) ?_
          rotate_left
          · intro w hSw; (try dsimp only at hSw); go_simp; (try rw [if_neg (by first | omega | (simp [ByteArray.size_append]; omega))]); try with_reducible rfl
          (try simp only [List.getElem_toArray, List.getElem_cons_succ, List.getElem_cons_zero, Act.put, List.setIfInBounds_toArray, List.set_cons_zero, List.set_cons_succ])
          refine wpAnyH_take (i := 16) (v := ?_) rfl (by kernel_rfl) (by kernel_rfl) (by kernel_rfl) (fun _ _ _ h => h) (Or.inl ⟨by rfl, ?_⟩) (by assumption) ?_
          rotate_left
          · intro w hSw; (try dsimp only at hSw); go_simp; (try rw [if_neg (by first | omega | (simp [ByteArray.size_append]; omega))]); try with_reducible rfl
          (try simp only [List.getElem_toArray, List.getElem_cons_succ, List.getElem_cons_zero, Act.put, List.setIfInBounds_toArray, List.set_cons_zero, List.set_cons_succ])
          refine wpAnyH_ready (rs := [19]) (by kernel_rfl) (by simp) ?_
          refine AllReadyH.cons rfl (fun K hK => ?_) (AllReadyH.nil)
          · go_simp
            (go_at_call 52; ((with_reducible refine (HD2.out _).mono ?_); rintro e' wz3 ⟨rfl, rfl⟩))
            refine hK.out _ _ ?_ (fun hHeld => ?_)
            · (try dsimp only); (first | assumption | exact HX.out | exact RpS.on (by assumption) hb2)
            clear hK K
            (try simp only [List.getElem_toArray, List.getElem_cons_succ, List.getElem_cons_zero, Act.put, List.setIfInBounds_toArray, List.set_cons_zero, List.set_cons_succ])
            refine wpAnyH_take (i := 20) (v := ?_) rfl (by kernel_rfl) (by kernel_rfl) (by kernel_rfl) (fun _ _ _ h => h) (Or.inl ⟨by rfl, ?_⟩) (by assumption) ?_
            rotate_left
            · intro w hSw; (try dsimp only at hSw); go_simp; (try rw [if_neg (by first | omega | (simp [ByteArray.size_append]; omega))]); try with_reducible rfl
            (try simp only [List.getElem_toArray, List.getElem_cons_succ, List.getElem_cons_zero, Act.put, List.setIfInBounds_toArray, List.set_cons_zero, List.set_cons_succ])
            refine wpAnyH_take (i := 21) (v := ?_) rfl (by kernel_rfl) (by kernel_rfl) (by kernel_rfl) (fun _ _ _ h => h) (Or.inl ⟨by rfl, ?_⟩) (by assumption) ?_
            rotate_left
            · intro w hSw; (try dsimp only at hSw); go_simp; (try rw [if_neg (by first | omega | (simp [ByteArray.size_append]; omega))]); try with_reducible rfl
            (try simp only [List.getElem_toArray, List.getElem_cons_succ, List.getElem_cons_zero, Act.put, List.setIfInBounds_toArray, List.set_cons_zero, List.set_cons_succ])
            refine wpAnyH_take (i := 22) (v := ?_) rfl (by kernel_rfl) (by kernel_rfl) (by kernel_rfl) (fun _ _ _ h => h) (Or.inl ⟨by rfl, ?_⟩) (by assumption) ?_
            rotate_left
            · intro w hSw; (try dsimp only at hSw); go_simp; (try rw [if_neg (by first | omega | (simp [ByteArray.size_append]; omega))]); try with_reducible rfl
            (try simp only [List.getElem_toArray, List.getElem_cons_succ, List.getElem_cons_zero, Act.put, List.setIfInBounds_toArray, List.set_cons_zero, List.set_cons_succ])
            refine wpAnyH_done (by kernel_rfl) ?_ _
            refine NoPanic.normal ?_
            rw [HS.out]
            have HB2 := Lib.hid (bthen HBX.out hHeld.2 (by rw [hg]; exact Nat.le_refl _))
            rw [← hg] at HB2
            clear hHeld HX HBX HS HT HD1 HD2 y1 y2 y3 y4 y5
            go_wp2_with fail
            go_roundg (gk - 1)
            case rel => rw [← hs']; exact RpL.next HK.out (by have := HK.out; omega) HC1.out HI1.out HB1.out HB2.out
            case measure => have := HK.out; omega
    · obtain rfl : k = pl.length := by have := HK.out; omega
      clear hlt HK
      obtain ⟨c0, c1, c2, c3, c4⟩ := HC1.out
      go_wp2_with fail
      go_loopg [3, 55] sl.length (fun g s i wr => RpL wk gv pl sl gr pa pc sa sc ga gc PR w (2 + pl.length) sl.length g s i wr)
      case atStart => exact ⟨0, by omega, rfl, rfl, HC1.out, HI1.out, HB1.out⟩
      case round =>
        clear c0 c1 c2 c3 c4 HC1 HI1 HB1
        obtain ⟨k, hk, rfl, rfl, hc, hi, hb⟩ := hrel
        have HC1 := Lib.hid hc
        have HI1 := Lib.hid hi
        have HB1 := Lib.hid hb
        have HK := Lib.hid hk
        clear hc hi hb hk
        obtain ⟨c0, c1, c2, c3, c4⟩ := HC1.out
        by_cases hlt : k < sl.length
        · have HS := Lib.hid (HF.out.slot k hlt)
          have hsz := HF.out.ssz k (by omega)
          have hx : 0 ≤ sl.getD k 0 ∧ sl.getD k 0 < pl.length := HF.out.fine.slot k hlt
          obtain ⟨b, off, rfl, hbl, d0⟩ := HI1.out.sl.at_ k hlt
          simp only at d0
          generalize sl.getD k 0 = x at *
          obtain ⟨n, rfl⟩ := Int.eq_ofNat_of_zero_le hx.1
          rw [show ((n : Nat) : Int).toNat = n from rfl] at HS
          have hn : n < pl.length := by omega
          have hx0 : (0 : Int) ≤ (n : Int) := hx.1
          have hx1 : (n : Int) < (pl.length : Int) := hx.2
          obtain ⟨b', off', rfl, hbl', hfit, hat⟩ := HI1.out.pl.at_ n hn
          obtain ⟨a0, -, -, -, -⟩ := hat
          have hnm : (Pl.plc pl n).name.length ≤ 16 := HF.out.fine.name n hn
          simp only at a0
          generalize Pl.plc pl n = x at *
          obtain ⟨nml, lv, st, bt, bs⟩ := x
          simp only at a0 HS hnm
          have y2 : (ofL nml).size ≤ 16 := by rw [ofL_size]; exact hnm
          clear hfit hnm hx
          generalize ofL nml = nm at *
          generalize PR (2 + pl.length + k) = s at *
          generalize hs' : PR (2 + pl.length + (k + 1)) = s' at *
          go_wp2_with fail
          rw [HS.out]
          go_roundg (gk - 1)
          case rel => rw [← hs']; exact RpL.next HK.out (by have := HK.out; omega) HC1.out HI1.out HB1.out (Below.refl _ _)
          case measure => have := HK.out; omega
        · obtain rfl : k = sl.length := by have := HK.out; omega
          clear hlt HK
          go_wp2_with fail
          go_loopg [3, 73] gr.length (fun g s i wr => RpL wk gv pl sl gr pa pc sa sc ga gc PR w (2 + pl.length + sl.length) gr.length g s i wr)
          case atStart => exact ⟨0, by omega, rfl, rfl, HC1.out, HI1.out, HB1.out⟩
          case round =>
            clear c0 c1 c2 c3 c4 HC1 HI1 HB1
            obtain ⟨k, hk, rfl, rfl, hc, hi, hb⟩ := hrel
            have HC1 := Lib.hid hc
            have HI1 := Lib.hid hi
            have HB1 := Lib.hid hb
            have HK := Lib.hid hk
            clear hc hi hb hk
            obtain ⟨c0, c1, c2, c3, c4⟩ := HC1.out
            by_cases hlt : k < gr.length
            · have HS := Lib.hid (HF.out.grant k hlt)
              have hsz := HF.out.gsz k (by omega)
              have hx : 0 ≤ (Pl.grn gr k).fr ∧ (Pl.grn gr k).fr < pl.length ∧ 0 ≤ (Pl.grn gr k).to ∧ (Pl.grn gr k).to < pl.length ∧ 0 ≤ (Pl.grn gr k).bud ∧ (Pl.grn gr k).bud ≤ 16 := HF.out.fine.grant k hlt
              obtain ⟨b, off, rfl, hbl, q0, q1, q2⟩ := HI1.out.gr.at_ k hlt
              generalize Pl.grn gr k = x at *
              obtain ⟨xf, xt, xb⟩ := x
              simp only at q0 q1 q2 hx HS
              obtain ⟨hx1, hx2, hx3, hx4, hx5, hx6⟩ := hx
              obtain ⟨nf, rfl⟩ := Int.eq_ofNat_of_zero_le hx1
              obtain ⟨nt, rfl⟩ := Int.eq_ofNat_of_zero_le hx3
              obtain ⟨bd, rfl⟩ := Int.eq_ofNat_of_zero_le hx5
              rw [show ((nf : Nat) : Int).toNat = nf from rfl, show ((nt : Nat) : Int).toNat = nt from rfl, show ((bd : Nat) : Int).toNat = bd from rfl] at HS
              have hnf : nf < pl.length := by omega
              have hnt : nt < pl.length := by omega
              obtain ⟨bp, op, rfl, hbp, -, hatf⟩ := HI1.out.pl.at_ nf hnf
              obtain ⟨bp', op', e6, -, -, hatt⟩ := HI1.out.pl.at_ nt hnt
              obtain ⟨rfl, rfl⟩ : bp = bp' ∧ op = op' := by simpa using e6
              obtain ⟨a0, -, -, -, -⟩ := hatf
              obtain ⟨f0, -, -, -, -⟩ := hatt
              have hnm : (Pl.plc pl nf).name.length ≤ 16 := HF.out.fine.name nf hnf
              have hnm2 : (Pl.plc pl nt).name.length ≤ 16 := HF.out.fine.name nt hnt
              have HD1 := Lib.hid (fun W => rdig_any bd (by omega) W)
              have y1 : IntKind.u64.wrap (bd : Int) = (bd : Int) := by rw [IntKind.wrap_u64]; omega
              have y2 : (ofL (Pl.plc pl nf).name).size ≤ 16 := by rw [ofL_size]; exact hnm
              have y3 : (ofL (Pl.plc pl nt).name).size ≤ 16 := by rw [ofL_size]; exact hnm2
              have y4 : (ofL (decDigits bd)).size ≤ 20 := by rw [ofL_size]; exact dec_len20 (by omega)
              clear hnm hnm2 e6
              generalize ofL (Pl.plc pl nf).name = sf at *
              generalize ofL (Pl.plc pl nt).name = st at *
              generalize ofL (decDigits bd) = d1 at *
              generalize PR (2 + pl.length + sl.length + k) = s at *
              generalize hs' : PR (2 + pl.length + sl.length + (k + 1)) = s' at *
              have hi4 : decide ((0 : Int) ≤ (nf : Int)) = true := decide_eq_true hx1
              have hi5 : decide ((nf : Int) < (pl.length : Int)) = true := decide_eq_true hx2
              have hj4 : decide ((0 : Int) ≤ (nt : Int)) = true := decide_eq_true hx3
              have hj5 : decide ((nt : Int) < (pl.length : Int)) = true := decide_eq_true hx4
              go_upto_region 15 with fail
              have hbx : Below wr.heap.size wr (wr.alloc (.cells #[.int .i64 (nf : Int), .int .i64 (nt : Int), .int .i64 (bd : Int)] 76)) := (Below.refl _ _).alloc (Nat.le_refl _) _
              have hX0 : R15S wr.heap.size w.heap.size bp op nf nt bd pl.length pc sf st (wr.alloc (.cells #[.int .i64 (nf : Int), .int .i64 (nt : Int), .int .i64 (bd : Int)] 76)).drew (wr.alloc (.cells #[.int .i64 (nf : Int), .int .i64 (nt : Int), .int .i64 (bd : Int)] 76)).drew := ⟨⟨(hbx.drew.cell (p := ⟨w.heap.size, 2, none⟩) HC1.out.lt).trans c2, by simp, by simp, by simp, (hbx.drew.cell (p := ⟨bp, op + nf * 5, none⟩) hbp).trans a0, (hbx.drew.cell (p := ⟨bp, op + nt * 5, none⟩) hbp).trans f0⟩, rfl⟩
              have HBX := Lib.hid hbx.drew
              generalize wr.alloc (.cells #[.int .i64 (nf : Int), .int .i64 (nt : Int), .int .i64 (bd : Int)] 76) = wq at *
              have HX := Lib.hid hX0
              clear hX0 hbx a0 f0 q0 q1 q2
              generalize hg : wr.heap.size = g at *
              refine wp_region_noPanic ?_
              refine wp_region_held_drew (S := R15S g w.heap.size bp op nf nt bd pl.length pc sf st wq.drew) (by kernel_rfl) ?_ (fun hHeld => ?_)
              · (try dsimp only); (first | assumption | exact HX.out)
              refine wpAnyH_take (i := 0) (v := ?_) rfl (by kernel_rfl) (by kernel_rfl) (by kernel_rfl) (fun _ _ _ h => h) (Or.inl ⟨by rfl, ?_⟩) (by assumption) ?_
              rotate_left
              · intro w hSw; (try dsimp only at hSw); go_simp; (try rw [if_neg (by first | omega | (simp [ByteArray.size_append]; omega))]); try with_reducible rfl
              (try simp only [List.getElem_toArray, List.getElem_cons_zero, Act.put, List.setIfInBounds_toArray, List.set_cons_zero, List.set_cons_succ])
              refine wpAnyH_take (i := 1) (v := ?_) rfl (by kernel_rfl) (by kernel_rfl) (by kernel_rfl) (fun _ _ _ h => h) (Or.inl ⟨by rfl, ?_⟩) (by assumption) ?_
              rotate_left
              · intro w hSw; (try dsimp only at hSw); go_simp; (try rw [if_neg (by first | omega | (simp [ByteArray.size_append]; omega))]); try with_reducible rfl
              (try simp only [List.getElem_toArray, List.getElem_cons_succ, List.getElem_cons_zero, Act.put, List.setIfInBounds_toArray, List.set_cons_zero, List.set_cons_succ])
              refine wpAnyH_take (i := 2) (v := ?_) rfl (by kernel_rfl) (by kernel_rfl) (by kernel_rfl) (fun _ _ _ h => h) (Or.inl ⟨by rfl, ?_⟩) (by assumption) ?_
              rotate_left
              · intro w hSw; (try dsimp only at hSw); go_simp; (try rw [if_neg (by first | omega | (simp [ByteArray.size_append]; omega))]); try with_reducible rfl
              (try simp only [List.getElem_toArray, List.getElem_cons_succ, List.getElem_cons_zero, Act.put, List.setIfInBounds_toArray, List.set_cons_zero, List.set_cons_succ])
              refine wpAnyH_take (i := 3) (v := ?_) rfl (by kernel_rfl) (by kernel_rfl) (by kernel_rfl) (fun _ _ _ h => h) (Or.inl ⟨by rfl, ?_⟩) (by assumption) ?_
              rotate_left
              · intro w hSw; (try dsimp only at hSw); go_simp; (try rw [if_neg (by first | omega | (simp [ByteArray.size_append]; omega))]); try with_reducible rfl
              (try simp only [List.getElem_toArray, List.getElem_cons_succ, List.getElem_cons_zero, Act.put, List.setIfInBounds_toArray, List.set_cons_zero, List.set_cons_succ])
              refine wpAnyH_take (i := 4) (v := ?_) rfl (by kernel_rfl) (by kernel_rfl) (by kernel_rfl) (fun _ _ _ h => h) (Or.inl ⟨by rfl, ?_⟩) (by assumption) ?_
              rotate_left
              · intro w hSw; (try dsimp only at hSw); go_simp; (try rw [if_neg (by first | omega | (simp [ByteArray.size_append]; omega))]); try with_reducible rfl
              (try simp only [List.getElem_toArray, List.getElem_cons_succ, List.getElem_cons_zero, Act.put, List.setIfInBounds_toArray, List.set_cons_zero, List.set_cons_succ])
              refine wpAnyH_take (i := 5) (v := ?_) rfl (by kernel_rfl) (by kernel_rfl) (by kernel_rfl) (fun _ _ _ h => h) (Or.inl ⟨by rfl, ?_⟩) (by assumption) ?_
              rotate_left
              · intro w hSw; (try dsimp only at hSw); go_simp; (try rw [if_neg (by first | omega | (simp [ByteArray.size_append]; omega))]); try with_reducible rfl
              (try simp only [List.getElem_toArray, List.getElem_cons_succ, List.getElem_cons_zero, Act.put, List.setIfInBounds_toArray, List.set_cons_zero, List.set_cons_succ])
              refine wpAnyH_take (i := 6) (v := ?_) rfl (by kernel_rfl) (by kernel_rfl) (by kernel_rfl) (fun _ _ _ h => h) (Or.inl ⟨by rfl, ?_⟩) (by assumption) ?_
              rotate_left
              · intro w hSw; (try dsimp only at hSw); go_simp; (try rw [if_neg (by first | omega | (simp [ByteArray.size_append]; omega))]); try with_reducible rfl
              (try simp only [List.getElem_toArray, List.getElem_cons_succ, List.getElem_cons_zero, Act.put, List.setIfInBounds_toArray, List.set_cons_zero, List.set_cons_succ])
              refine wpAnyH_take (i := 7) (v := ?_) rfl (by kernel_rfl) (by kernel_rfl) (by kernel_rfl) (fun _ _ _ h => h) (Or.inl ⟨by rfl, ?_⟩) (by assumption) ?_
              rotate_left
              · intro w hSw; (try dsimp only at hSw); go_simp; (try rw [if_neg (by first | omega | (simp [ByteArray.size_append]; omega))]); try with_reducible rfl
              (try simp only [List.getElem_toArray, List.getElem_cons_succ, List.getElem_cons_zero, Act.put, List.setIfInBounds_toArray, List.set_cons_zero, List.set_cons_succ])
              refine wpAnyH_take (i := 8) (v := ?_) rfl (by kernel_rfl) (by kernel_rfl) (by kernel_rfl) (fun _ _ _ h => h) (Or.inl ⟨by rfl, ?_⟩) (by assumption) ?_
              rotate_left
              · intro w hSw; (try dsimp only at hSw); go_simp; (try rw [if_neg (by first | omega | (simp [ByteArray.size_append]; omega))]); try with_reducible rfl
              (try simp only [List.getElem_toArray, List.getElem_cons_succ, List.getElem_cons_zero, Act.put, List.setIfInBounds_toArray, List.set_cons_zero, List.set_cons_succ])
              refine wpAnyH_take (i := 9) (v := ?_) rfl (by kernel_rfl) (by kernel_rfl) (by kernel_rfl) (fun _ _ _ h => h) (Or.inl ⟨by rfl, ?_⟩) (by assumption) ?_
              rotate_left
              · intro w hSw; (try dsimp only at hSw); go_simp; (try rw [if_neg (by first | omega | (simp [ByteArray.size_append]; omega))]); try with_reducible rfl
              (try simp only [List.getElem_toArray, List.getElem_cons_succ, List.getElem_cons_zero, Act.put, List.setIfInBounds_toArray, List.set_cons_zero, List.set_cons_succ])
              refine wpAnyH_take (i := 10) (v := ?_) rfl (by kernel_rfl) (by kernel_rfl) (by kernel_rfl) (fun _ _ _ h => h) (Or.inl ⟨by rfl, ?_⟩) (by assumption) ?_
              rotate_left
              · intro w hSw; (try dsimp only at hSw); go_simp; (try rw [if_neg (by first | omega | (simp [ByteArray.size_append]; omega))]); try with_reducible rfl
              (try simp only [List.getElem_toArray, List.getElem_cons_succ, List.getElem_cons_zero, Act.put, List.setIfInBounds_toArray, List.set_cons_zero, List.set_cons_succ])
              refine wpAnyH_take (i := 11) (v := ?_) rfl (by kernel_rfl) (by kernel_rfl) (by kernel_rfl) (fun _ _ _ h => h) (Or.inl ⟨by rfl, ?_⟩) (by assumption) ?_
              rotate_left
              · intro w hSw; (try dsimp only at hSw); go_simp; (try rw [if_neg (by first | omega | (simp [ByteArray.size_append]; omega))]); try with_reducible rfl
              (try simp only [List.getElem_toArray, List.getElem_cons_succ, List.getElem_cons_zero, Act.put, List.setIfInBounds_toArray, List.set_cons_zero, List.set_cons_succ])
              refine wpAnyH_take (i := 12) (v := ?_) rfl (by kernel_rfl) (by kernel_rfl) (by kernel_rfl) (fun _ _ _ h => h) (Or.inl ⟨by rfl, ?_⟩) (by assumption) ?_
              rotate_left
              · intro w hSw; (try dsimp only at hSw); go_simp; (try rw [if_neg (by first | omega | (simp [ByteArray.size_append]; omega))]); try with_reducible rfl
              (try simp only [List.getElem_toArray, List.getElem_cons_succ, List.getElem_cons_zero, Act.put, List.setIfInBounds_toArray, List.set_cons_zero, List.set_cons_succ])
              refine wpAnyH_take (i := 13) (v := ?_) rfl (by kernel_rfl) (by kernel_rfl) (by kernel_rfl) (fun _ _ _ h => h) (Or.inl ⟨by rfl, ?_⟩) (by assumption) ?_
              rotate_left
              · intro w hSw; (try dsimp only at hSw); go_simp; (try rw [if_neg (by first | omega | (simp [ByteArray.size_append]; omega))]); try with_reducible rfl
              (try simp only [List.getElem_toArray, List.getElem_cons_succ, List.getElem_cons_zero, Act.put, List.setIfInBounds_toArray, List.set_cons_zero, List.set_cons_succ])
              refine wpAnyH_take (i := 14) (v := ?_) rfl (by kernel_rfl) (by kernel_rfl) (by kernel_rfl) (fun _ _ _ h => h) (Or.inl ⟨by rfl, ?_⟩) (by assumption) ?_
              rotate_left
              · intro w hSw; (try dsimp only at hSw); go_simp; (try rw [if_neg (by first | omega | (simp [ByteArray.size_append]; omega))]); try with_reducible rfl
              (try simp only [List.getElem_toArray, List.getElem_cons_succ, List.getElem_cons_zero, Act.put, List.setIfInBounds_toArray, List.set_cons_zero, List.set_cons_succ])
              refine wpAnyH_take (i := 15) (v := ?_) rfl (by kernel_rfl) (by kernel_rfl) (by kernel_rfl) (fun _ _ _ h => h) (Or.inl ⟨by rfl, ?_⟩) (by assumption) ?_
              rotate_left
              · intro w hSw; (try dsimp only at hSw); go_simp; (try rw [if_neg (by first | omega | (simp [ByteArray.size_append]; omega))]); try with_reducible rfl
              (try simp only [List.getElem_toArray, List.getElem_cons_succ, List.getElem_cons_zero, Act.put, List.setIfInBounds_toArray, List.set_cons_zero, List.set_cons_succ])
              refine wpAnyH_take (i := 16) (v := ?_) rfl (by kernel_rfl) (by kernel_rfl) (by kernel_rfl) (fun _ _ _ h => h) (Or.inl ⟨by rfl, ?_⟩) (by assumption) ?_
              rotate_left
              · intro w hSw; (try dsimp only at hSw); go_simp; (try rw [if_neg (by first | omega | (simp [ByteArray.size_append]; omega))]); try with_reducible rfl
              (try simp only [List.getElem_toArray, List.getElem_cons_succ, List.getElem_cons_zero, Act.put, List.setIfInBounds_toArray, List.set_cons_zero, List.set_cons_succ])
              refine wpAnyH_take (i := 17) (v := ?_) rfl (by kernel_rfl) (by kernel_rfl) (by kernel_rfl) (fun _ _ _ h => h) (Or.inl ⟨by rfl, ?_⟩) (by assumption) ?_
              rotate_left
              · intro w hSw; (try dsimp only at hSw); go_simp; (try rw [if_neg (by first | omega | (simp [ByteArray.size_append]; omega))]); try with_reducible rfl
              (try simp only [List.getElem_toArray, List.getElem_cons_succ, List.getElem_cons_zero, Act.put, List.setIfInBounds_toArray, List.set_cons_zero, List.set_cons_succ])
              refine wpAnyH_take (i := 18) (v := ?_) rfl (by kernel_rfl) (by kernel_rfl) (by kernel_rfl) (fun _ _ _ h => h) (Or.inl ⟨by rfl, ?_⟩) (by assumption) ?_
              rotate_left
              · intro w hSw; (try dsimp only at hSw); go_simp; (try rw [if_neg (by first | omega | (simp [ByteArray.size_append]; omega))]); try with_reducible rfl
              (try simp only [List.getElem_toArray, List.getElem_cons_succ, List.getElem_cons_zero, Act.put, List.setIfInBounds_toArray, List.set_cons_zero, List.set_cons_succ])
              refine wpAnyH_take (i := 19) (v := ?_) rfl (by kernel_rfl) (by kernel_rfl) (by kernel_rfl) (fun _ _ _ h => h) (Or.inl ⟨by rfl, ?_⟩) (by assumption) ?_
              rotate_left
              · intro w hSw; (try dsimp only at hSw); go_simp; (try rw [if_neg (by first | omega | (simp [ByteArray.size_append]; omega))]); try with_reducible rfl
              (try simp only [List.getElem_toArray, List.getElem_cons_succ, List.getElem_cons_zero, Act.put, List.setIfInBounds_toArray, List.set_cons_zero, List.set_cons_succ])
              refine wpAnyH_take (i := 20) (v := ?_) rfl (by kernel_rfl) (by kernel_rfl) (by kernel_rfl) (fun _ _ _ h => h) (Or.inl ⟨by rfl, ?_⟩) (by assumption) ?_
              rotate_left
              · intro w hSw; (try dsimp only at hSw); go_simp; (try rw [if_neg (by first | omega | (simp [ByteArray.size_append]; omega))]); try with_reducible rfl
              (try simp only [List.getElem_toArray, List.getElem_cons_succ, List.getElem_cons_zero, Act.put, List.setIfInBounds_toArray, List.set_cons_zero, List.set_cons_succ])
              refine wpAnyH_take (i := 21) (v := ?_) rfl (by kernel_rfl) (by kernel_rfl) (by kernel_rfl) (fun _ _ _ h => h) (Or.inl ⟨by rfl, ?_⟩) (by assumption) ?_
              rotate_left
              · intro w hSw; (try dsimp only at hSw); go_simp; (try rw [if_neg (by first | omega | (simp [ByteArray.size_append]; omega))]); try with_reducible rfl
              (try simp only [List.getElem_toArray, List.getElem_cons_succ, List.getElem_cons_zero, Act.put, List.setIfInBounds_toArray, List.set_cons_zero, List.set_cons_succ])
              refine wpAnyH_take (i := 22) (v := ?_) rfl (by kernel_rfl) (by kernel_rfl) (by kernel_rfl) (fun _ _ _ h => h) (Or.inl ⟨by rfl, ?_⟩) (by assumption) ?_
              rotate_left
              · intro w hSw; (try dsimp only at hSw); go_simp; (try rw [if_neg (by first | omega | (simp [ByteArray.size_append]; omega))]); try with_reducible rfl
              (try simp only [List.getElem_toArray, List.getElem_cons_succ, List.getElem_cons_zero, Act.put, List.setIfInBounds_toArray, List.set_cons_zero, List.set_cons_succ])
              refine wpAnyH_ready (rs := [23]) (by kernel_rfl) (by simp) ?_
              refine AllReadyH.cons rfl (fun K hK => ?_) (AllReadyH.nil)
              · go_simp
                (go_at_call 52; ((with_reducible refine (HD1.out _).mono ?_); rintro e' wz2 ⟨rfl, rfl⟩))
                refine hK.out _ _ ?_ (fun hHeld => ?_)
                · (try dsimp only); (first | assumption | exact HX.out)
                clear hK K
                (try simp only [List.getElem_toArray, List.getElem_cons_succ, List.getElem_cons_zero, Act.put, List.setIfInBounds_toArray, List.set_cons_zero, List.set_cons_succ])
                refine wpAnyH_take (i := 24) (v := ?_) rfl (by kernel_rfl) (by kernel_rfl) (by kernel_rfl) (fun _ _ _ h => h) (Or.inl ⟨by rfl, ?_⟩) (by assumption) ?_
                rotate_left
                · intro w hSw; (try dsimp only at hSw); go_simp; (try rw [if_neg (by first | omega | (simp [ByteArray.size_append]; omega))]); try with_reducible rfl
                (try simp only [List.getElem_toArray, List.getElem_cons_succ, List.getElem_cons_zero, Act.put, List.setIfInBounds_toArray, List.set_cons_zero, List.set_cons_succ])
                refine wpAnyH_take (i := 25) (v := ?_) rfl (by kernel_rfl) (by kernel_rfl) (by kernel_rfl) (fun _ _ _ h => h) (Or.inl ⟨by rfl, ?_⟩) (by assumption) ?_
                rotate_left
                · intro w hSw; (try dsimp only at hSw); go_simp; (try rw [if_neg (by first | omega | (simp [ByteArray.size_append]; omega))]); try with_reducible rfl
                (try simp only [List.getElem_toArray, List.getElem_cons_succ, List.getElem_cons_zero, Act.put, List.setIfInBounds_toArray, List.set_cons_zero, List.set_cons_succ])
                refine wpAnyH_take (i := 26) (v := ?_) rfl (by kernel_rfl) (by kernel_rfl) (by kernel_rfl) (fun _ _ _ h => h) (Or.inl ⟨by rfl, ?_⟩) (by assumption) ?_
                rotate_left
                · intro w hSw; (try dsimp only at hSw); go_simp; (try rw [if_neg (by first | omega | (simp [ByteArray.size_append]; omega))]); try with_reducible rfl
                (try simp only [List.getElem_toArray, List.getElem_cons_succ, List.getElem_cons_zero, Act.put, List.setIfInBounds_toArray, List.set_cons_zero, List.set_cons_succ])
                refine wpAnyH_done (by kernel_rfl) ?_ _
                refine NoPanic.normal ?_
                rw [HS.out]
                have HB2 := Lib.hid HBX.out
                rw [← hg] at HB2
                clear hHeld HX HBX HS HD1 y1 y2 y3 y4
                go_wp2_with fail
                go_roundg (gk - 1)
                case rel => rw [← hs']; exact RpL.next HK.out (by have := HK.out; omega) HC1.out HI1.out HB1.out HB2.out
                case measure => have := HK.out; omega
            · obtain rfl : k = gr.length := by have := HK.out; omega
              clear hlt HK
              rw [HALL.out]
              go_wp2_with fail
              go_ret
              exact ⟨rfl, HB1.out⟩
end Go.Proofs.YtokljdaofjgihaaGreatDoor
namespace Go.Proofs.YtokljdaofjgihaaGreatDoor
open Go.ChangeShapes Go.WideShapes Go.ChangeAt Go.RowKit
open Lib (decDigits)
abbrev P4S (b : Nat) (wk gv : Nat) (w0 W : World) : Prop := (W.cell? ⟨b, 0, none⟩ = some (.int .i64 (wk : Int)) ∧ W.cell? ⟨b, 1, none⟩ = some (.int .i64 (gv : Int)) ∧ b < W.heap.size ∧ Pow W) ∧ Below w0.heap.size w0 W
theorem P4S.on {b : Nat} {wk gv : Nat} {w0 W W' : World} (h : P4S b wk gv w0 W) (hb : Below W.heap.size W W') : P4S b wk gv w0 W' := by
  obtain ⟨⟨h0, h1, h2, h3⟩, h4⟩ := h
  exact ⟨⟨(hb.cell (p := ⟨b, 0, none⟩) h2).trans h0, (hb.cell (p := ⟨b, 1, none⟩) h2).trans h1, Nat.lt_of_lt_of_le h2 hb.size, h3.below hb h3.pos⟩, h4.trans (hb.mono h4.size)⟩
abbrev P9S (b : Nat) (nm : ByteArray) (lv st bt bs : Nat) (w0 W : World) : Prop :=
  ((W.cell? ⟨b, 0, none⟩ = some (.string nm) ∧ W.cell? ⟨b, 1, none⟩ = some (.int .u8 (lv : Int)) ∧ W.cell? ⟨b, 2, none⟩ = some (.int .u32 (st : Int)) ∧ W.cell? ⟨b, 3, none⟩ = some (.int .i64 (bt : Int)) ∧ W.cell? ⟨b, 4, none⟩ = some (.int .u64 (bs : Int)) ∧ b < W.heap.size) ∧ Pow W) ∧ Below w0.heap.size w0 W
theorem P9S.on {b : Nat} {nm : ByteArray} {lv st bt bs : Nat} {w0 W W' : World} (h : P9S b nm lv st bt bs w0 W) (hb : Below W.heap.size W W') : P9S b nm lv st bt bs w0 W' := by
  obtain ⟨⟨⟨h0, h1, h2, h3, h4, h5⟩, hp⟩, h6⟩ := h
  exact ⟨⟨⟨(hb.cell (p := ⟨b, 0, none⟩) h5).trans h0, (hb.cell (p := ⟨b, 1, none⟩) h5).trans h1, (hb.cell (p := ⟨b, 2, none⟩) h5).trans h2, (hb.cell (p := ⟨b, 3, none⟩) h5).trans h3, (hb.cell (p := ⟨b, 4, none⟩) h5).trans h4, Nat.lt_of_lt_of_le h5 hb.size⟩, hp.below hb hp.pos⟩, h6.trans (hb.mono h6.size)⟩
abbrev P19S (g g0 bp op nf nt bd np pc : Nat) (sf st : ByteArray) (w0 W : World) : Prop :=
  (W.cell? ⟨g0, 2, none⟩ = some (.slice (some ⟨bp, op, none⟩) np pc) ∧ W.cell? ⟨g, 0, none⟩ = some (.int .i64 (nf : Int)) ∧ W.cell? ⟨g, 1, none⟩ = some (.int .i64 (nt : Int)) ∧ W.cell? ⟨g, 2, none⟩ = some (.int .i64 (bd : Int)) ∧ W.cell? ⟨bp, op + nf * 5, none⟩ = some (.string sf) ∧ W.cell? ⟨bp, op + nt * 5, none⟩ = some (.string st) ∧ g < W.heap.size ∧ g0 < W.heap.size ∧ bp < W.heap.size ∧ Pow W) ∧ Below w0.heap.size w0 W
theorem P19S.on {g g0 bp op nf nt bd np pc : Nat} {sf st : ByteArray} {w0 W W' : World} (h : P19S g g0 bp op nf nt bd np pc sf st w0 W) (hb : Below W.heap.size W W') : P19S g g0 bp op nf nt bd np pc sf st w0 W' := by
  obtain ⟨⟨h0, h1, h2, h3, h4, h5, a1, a2, a3, hp⟩, h6⟩ := h
  exact ⟨⟨(hb.cell (p := ⟨g0, 2, none⟩) a2).trans h0, (hb.cell (p := ⟨g, 0, none⟩) a1).trans h1, (hb.cell (p := ⟨g, 1, none⟩) a1).trans h2, (hb.cell (p := ⟨g, 2, none⟩) a1).trans h3, (hb.cell (p := ⟨bp, op + nf * 5, none⟩) a3).trans h4, (hb.cell (p := ⟨bp, op + nt * 5, none⟩) a3).trans h5, Nat.lt_of_lt_of_le a1 hb.size, Nat.lt_of_lt_of_le a2 hb.size, Nat.lt_of_lt_of_le a3 hb.size, hp.below hb hp.pos⟩, h6.trans (hb.mono h6.size)⟩
set_option maxRecDepth 100000 in
set_option maxHeartbeats 16000000 in
theorem print_core (wk gv : Nat) (pl : List Pl.Plc) (sl : List Int) (gr : List Pl.Grn) (pa : Option Addr) (pc : Nat) (sa : Option Addr) (sc : Nat) (ga : Option Addr) (gc : Nat) (PR : Nat → ByteArray) (T : ByteArray) (w : World) (hp : PolIs w ⟨wk, gv, pl, sl, gr⟩ pa pc sa sc ga gc) (hF : PrF wk gv pl sl gr PR T) (hG : PrG wk gv pl sl gr PR) (hch : Pl.check ⟨wk, gv, pl, sl, gr⟩ = 0) (hpow : Pow w) :
    Calls Tryz.prog 13 #[.agg #[.int .i64 wk, .int .i64 gv, .slice pa pl.length pc, .slice sa sl.length sc, .slice ga gr.length gc]] w fun e w' => e = .returned (.tuple #[.string T, .int .i64 0]) ∧ Below w.heap.size w w' := by
  have hal : Below w.heap.size w (w.alloc (.cells #[.int .i64 wk, .int .i64 gv, .slice pa pl.length pc, .slice sa sl.length sc, .slice ga gr.length gc] 26)) := (Below.refl _ _).alloc (Nat.le_refl _) _
  have HI := Lib.hid (hp.on hal)
  have HA := Lib.hid hal
  have HC := Lib.hid (Cell5.new w (.int .i64 wk) (.int .i64 gv) (.slice pa pl.length pc) (.slice sa sl.length sc) (.slice ga gr.length gc) 26)
  have HF := Lib.hid hF
  have HG := Lib.hid hG
  have HT2 := Lib.hid hG.two
  have HALL := Lib.hid hF.all
  have HPW := Lib.hid (fun W (h : Below w.heap.size w W) => hpow.below h hpow.pos)
  have HCK := Lib.hid (fun W h => polCheck_any ⟨wk, gv, pl, sl, gr⟩ pa pc sa sc ga gc W h)
  rw [hch] at HCK
  simp only [polV] at HCK
  have hw1 : (wk : Int) ≤ 16 := hF.fine.work.2
  have hw2 : (gv : Int) ≤ 16 := hF.fine.give.2
  have hnp : pl.length ≤ 1000 := hF.fine.np
  have hns : sl.length ≤ 1000 := hF.fine.ns
  have hng : gr.length ≤ 1000 := hF.fine.ng
  have HIW := Lib.hid (fun W h => itoa_big wk W (by omega) h)
  have HIG := Lib.hid (fun W h => itoa_big gv W (by omega) h)
  have HLW := Lib.hid (fun W t => pline2 Pl.wWork (decDigits wk) hG.lw W t)
  have HLG := Lib.hid (fun W t => pline2 Pl.wGive (decDigits gv) hG.lg W t)
  have z1 := line_size hG.lw
  have z2 := line_size hG.lg
  rw [show ofL Pl.wWork = (⟨#[119, 111, 114, 107]⟩ : ByteArray) from rfl] at HLW
  rw [show ofL Pl.wGive = (⟨#[103, 105, 118, 101]⟩ : ByteArray) from rfl] at HLG
  generalize ofL (Pl.joinS [Pl.wWork, decDigits wk] ++ [10]) = l1 at *
  generalize ofL (Pl.joinS [Pl.wGive, decDigits gv] ++ [10]) = l2 at *
  generalize ofL (decDigits wk) = dw at *
  generalize ofL (decDigits gv) = dg at *
  clear hp hF hG hal hch hpow
  obtain ⟨c0, c1, c2, c3, c4⟩ := HC.out
  go_enter Tryz.func13, Tryz.ntmps13
  go_wp2_with fail
  (refine (HCK.out _ HI.out).mono ?_)
  rintro e w1 ⟨rfl, b1⟩
  have HC1 := Lib.hid (HC.out.on b1)
  have HI1 := Lib.hid (HI.out.on b1)
  have HBX := Lib.hid (bthen HA.out b1 (Nat.le_refl _))
  clear c0 c1 c2 c3 c4 b1 HCK HC HI HA
  obtain ⟨c0, c1, c2, c3, c4⟩ := HC1.out
  go_upto_region 4 with fail
  have hX0 : P4S w.heap.size wk gv w1 w1.drew := ⟨⟨c0, c1, by have := HC1.out.lt; simpa using this, HPW.out _ HBX.out.drew⟩, (Below.refl _ _).drew⟩
  have HX := Lib.hid hX0
  clear hX0
  generalize hg0 : w.heap.size = g0 at *
  generalize hq : w1 = wq at *
  go_cut [5] (fun s5 wx => s5 = .string (PR 2) ∧ Cell5 wx g0 (.int .i64 wk) (.int .i64 gv) (.slice pa pl.length pc) (.slice sa sl.length sc) (.slice ga gr.length gc) ∧ PolIs wx ⟨wk, gv, pl, sl, gr⟩ pa pc sa sc ga gc ∧ Below g0 w wx)
  case first =>
    refine wp_region_noPanic ?_
    refine wp_region_held_drew (S := P4S g0 wk gv wq) (by kernel_rfl) ?_ (fun hHeld => ?_)
    · (try dsimp only); (first | assumption | exact HX.out | exact P4S.on (by assumption) ((Below.refl _ _).alloc (Nat.le_refl _) _) | exact P4S.on (by assumption) hb2)
    refine wpAnyH_take (i := 0) (v := ?_) rfl (by kernel_rfl) (by kernel_rfl) (by kernel_rfl) (fun _ _ _ h => h) (Or.inl ⟨by rfl, ?_⟩) (by assumption) ?_
    rotate_left
    · intro w hSw; (try dsimp only at hSw); go_simp; (try rw [if_neg (by first | omega | (simp [ByteArray.size_append]; omega))]); try with_reducible rfl
    (try simp only [List.getElem_toArray, List.getElem_cons_zero, Act.put, List.setIfInBounds_toArray, List.set_cons_zero, List.set_cons_succ])
    refine wpAnyH_take (i := 1) (v := ?_) rfl (by kernel_rfl) (by kernel_rfl) (by kernel_rfl) (fun _ _ _ h => h) (Or.inl ⟨by rfl, ?_⟩) (by assumption) ?_
    rotate_left
    · intro w hSw; (try dsimp only at hSw); go_simp; (try rw [if_neg (by first | omega | (simp [ByteArray.size_append]; omega))]); try with_reducible rfl
    (try simp only [List.getElem_toArray, List.getElem_cons_succ, List.getElem_cons_zero, Act.put, List.setIfInBounds_toArray, List.set_cons_zero, List.set_cons_succ])
    refine wpAnyH_take (i := 5) (v := ?_) rfl (by kernel_rfl) (by kernel_rfl) (by kernel_rfl) (fun _ _ _ h => h) (Or.inl ⟨by rfl, ?_⟩) (by assumption) ?_
    rotate_left
    · intro w hSw; (try dsimp only at hSw); go_simp; (try rw [if_neg (by first | omega | (simp [ByteArray.size_append]; omega))]); try with_reducible rfl
    (try simp only [List.getElem_toArray, List.getElem_cons_succ, List.getElem_cons_zero, Act.put, List.setIfInBounds_toArray, List.set_cons_zero, List.set_cons_succ])
    refine wpAnyH_take (i := 6) (v := ?_) rfl (by kernel_rfl) (by kernel_rfl) (by kernel_rfl) (fun _ _ _ h => h) (Or.inl ⟨by rfl, ?_⟩) (by assumption) ?_
    rotate_left
    · intro w hSw; (try dsimp only at hSw); go_simp; (try rw [if_neg (by first | omega | (simp [ByteArray.size_append]; omega))]); try with_reducible rfl
    (try simp only [List.getElem_toArray, List.getElem_cons_succ, List.getElem_cons_zero, Act.put, List.setIfInBounds_toArray, List.set_cons_zero, List.set_cons_succ])
    refine wpAnyH_ready (rs := [2]) (by kernel_rfl) (by simp) ?_
    refine AllReadyH.cons rfl (fun K hK => ?_) (AllReadyH.nil)
    · go_simp
      (go_at_call 40; ((refine (HIW.out _ hHeld.1.2.2.2).mono ?_); rintro e' wz ⟨rfl, hb2⟩))
      refine hK.out _ _ ?_ (fun hHeld => ?_)
      · (try dsimp only); (first | assumption | exact HX.out | exact P4S.on (by assumption) ((Below.refl _ _).alloc (Nat.le_refl _) _) | exact P4S.on (by assumption) hb2)
      clear hK K
      (try simp only [List.getElem_toArray, List.getElem_cons_succ, List.getElem_cons_zero, Act.put, List.setIfInBounds_toArray, List.set_cons_zero, List.set_cons_succ])
      refine wpAnyH_ready (rs := [3]) (by kernel_rfl) (by simp) ?_
      refine AllReadyH.cons rfl (fun K hK => ?_) (AllReadyH.nil)
      · go_simp
        refine hK.out _ _ ?_ (fun hHeld => ?_)
        · (try dsimp only); (first | assumption | exact HX.out | exact P4S.on (by assumption) ((Below.refl _ _).alloc (Nat.le_refl _) _) | exact P4S.on (by assumption) hb2)
        clear hK K
        (try simp only [List.getElem_toArray, List.getElem_cons_succ, List.getElem_cons_zero, Act.put, List.setIfInBounds_toArray, List.set_cons_zero, List.set_cons_succ])
        refine wpAnyH_ready (rs := [4]) (by kernel_rfl) (by simp) ?_
        refine AllReadyH.cons rfl (fun K hK => ?_) (AllReadyH.nil)
        · go_simp
          (go_at_call 39; ((refine (HLW.out _ _).mono ?_); rintro e' wz ⟨rfl, hb2⟩))
          refine hK.out _ _ ?_ (fun hHeld => ?_)
          · (try dsimp only); (first | assumption | exact HX.out | exact P4S.on (by assumption) ((Below.refl _ _).alloc (Nat.le_refl _) _) | exact P4S.on (by assumption) hb2)
          clear hK K
          (try simp only [List.getElem_toArray, List.getElem_cons_succ, List.getElem_cons_zero, Act.put, List.setIfInBounds_toArray, List.set_cons_zero, List.set_cons_succ])
          refine wpAnyH_ready (rs := [7]) (by kernel_rfl) (by simp) ?_
          refine AllReadyH.cons rfl (fun K hK => ?_) (AllReadyH.nil)
          · go_simp
            (go_at_call 40; ((refine (HIG.out _ hHeld.1.2.2.2).mono ?_); rintro e' wz ⟨rfl, hb2⟩))
            refine hK.out _ _ ?_ (fun hHeld => ?_)
            · (try dsimp only); (first | assumption | exact HX.out | exact P4S.on (by assumption) ((Below.refl _ _).alloc (Nat.le_refl _) _) | exact P4S.on (by assumption) hb2)
            clear hK K
            (try simp only [List.getElem_toArray, List.getElem_cons_succ, List.getElem_cons_zero, Act.put, List.setIfInBounds_toArray, List.set_cons_zero, List.set_cons_succ])
            refine wpAnyH_ready (rs := [8]) (by kernel_rfl) (by simp) ?_
            refine AllReadyH.cons rfl (fun K hK => ?_) (AllReadyH.nil)
            · go_simp
              refine hK.out _ _ ?_ (fun hHeld => ?_)
              · (try dsimp only); (first | assumption | exact HX.out | exact P4S.on (by assumption) ((Below.refl _ _).alloc (Nat.le_refl _) _) | exact P4S.on (by assumption) hb2)
              clear hK K
              (try simp only [List.getElem_toArray, List.getElem_cons_succ, List.getElem_cons_zero, Act.put, List.setIfInBounds_toArray, List.set_cons_zero, List.set_cons_succ])
              refine wpAnyH_ready (rs := [9]) (by kernel_rfl) (by simp) ?_
              refine AllReadyH.cons rfl (fun K hK => ?_) (AllReadyH.nil)
              · go_simp
                (go_at_call 39; ((refine (HLG.out _ _).mono ?_); rintro e' wz ⟨rfl, hb2⟩))
                refine hK.out _ _ ?_ (fun hHeld => ?_)
                · (try dsimp only); (first | assumption | exact HX.out | exact P4S.on (by assumption) ((Below.refl _ _).alloc (Nat.le_refl _) _) | exact P4S.on (by assumption) hb2)
                clear hK K
                (try simp only [List.getElem_toArray, List.getElem_cons_succ, List.getElem_cons_zero, Act.put, List.setIfInBounds_toArray, List.set_cons_zero, List.set_cons_succ])
                refine wpAnyH_take (i := 10) (v := ?_) rfl (by kernel_rfl) (by kernel_rfl) (by kernel_rfl) (fun _ _ _ h => h) (Or.inl ⟨by rfl, ?_⟩) (by assumption) ?_
                rotate_left
                · intro w hSw; (try dsimp only at hSw); go_simp; (try rw [if_neg (by first | omega | (simp [ByteArray.size_append]; omega))]); try with_reducible rfl
                (try simp only [List.getElem_toArray, List.getElem_cons_succ, List.getElem_cons_zero, Act.put, List.setIfInBounds_toArray, List.set_cons_zero, List.set_cons_succ])
                refine wpAnyH_take (i := 11) (v := ?_) rfl (by kernel_rfl) (by kernel_rfl) (by kernel_rfl) (fun _ _ _ h => h) (Or.inl ⟨by rfl, ?_⟩) (by assumption) ?_
                rotate_left
                · intro w hSw; (try dsimp only at hSw); go_simp; (try rw [if_neg (by first | omega | (simp [ByteArray.size_append]; omega))]); try with_reducible rfl
                (try simp only [List.getElem_toArray, List.getElem_cons_succ, List.getElem_cons_zero, Act.put, List.setIfInBounds_toArray, List.set_cons_zero, List.set_cons_succ])
                refine wpAnyH_done (by kernel_rfl) ?_ _
                refine NoPanic.normal ?_
                rw [HT2.out]
                have HB2 := Lib.hid (bthen HBX.out hHeld.2 (by omega))
                have HBY := Lib.hid hHeld.2
                clear hHeld
                go_wp2_with fail
                go_meet
                exact ⟨rfl, HC1.out.on HBY.out, HI1.out.on HBY.out, HB2.out⟩
  case rest =>
  obtain ⟨rfl, hY, hI, hB⟩ := hcut
  subst hg0
  have HY := Lib.hid hY
  have HI0 := Lib.hid hI
  have HB0 := Lib.hid hB
  clear HX HT2 HIW HIG HLW HLG z1 z2 hw1 hw2 c0 c1 c2 c3 c4 HC1 HI1 HBX hI hB
  obtain ⟨c0, c1, c2, c3, c4⟩ := hY
  go_wp2_with fail
  go_loopg [5, 32] pl.length (fun g s i wr => RpL wk gv pl sl gr pa pc sa sc ga gc PR w 2 pl.length g s i wr)
  case atStart => exact ⟨0, by omega, rfl, rfl, HY.out, HI0.out, HB0.out⟩
  case round =>
    clear c0 c1 c2 c3 c4 HY HI0 HB0
    obtain ⟨k, hk, rfl, rfl, hc, hi, hb⟩ := hrel
    have HC1 := Lib.hid hc
    have HI1 := Lib.hid hi
    have HB1 := Lib.hid hb
    have HK := Lib.hid hk
    clear hc hi hb hk
    by_cases hlt : k < pl.length
    · obtain ⟨b, off, rfl, hbl, hfit, hat⟩ := HI1.out.pl.at_ k hlt
      obtain ⟨a0, a1, a2, a3, a4⟩ := hat
      have HS := Lib.hid (HG.out.place k hlt)
      have hln := HG.out.lp k hlt
      have hsz := HF.out.psz k (by omega)
      have hby : 0 ≤ (Pl.plc pl k).bytes ∧ (Pl.plc pl k).bytes ≤ 9223372036854775807 := HF.out.fine.bytes k hlt
      have hlv : (Pl.plc pl k).lv < 256 := HF.out.fine.lv k hlt
      have hse : (Pl.plc pl k).set < 4294967296 := HF.out.fine.set k hlt
      have hbs : (Pl.plc pl k).base < 18446744073709551616 := HF.out.fine.base k hlt
      generalize Pl.plc pl k = x at *
      obtain ⟨nml, lv, st, bt, bs⟩ := x
      simp only at a0 a1 a2 a3 a4 HS hln hby hlv hse hbs
      obtain ⟨bt, rfl⟩ := Int.eq_ofNat_of_zero_le hby.1
      rw [show ((bt : Nat) : Int).toNat = bt from rfl] at HS hln
      have HT := Lib.hid (fun W h => text_any' lv st W hlv hse h)
      have HD1 := Lib.hid (fun W h => itoa_big bt W (by omega) h)
      have HD2 := Lib.hid (fun W h => fmt_any bs hbs W h)
      have HL := Lib.hid (fun W t => pline5 Pl.wLabel nml (Lat.textL lv st) (decDigits bt) (decDigits bs) hln W t)
      rw [show ofL Pl.wLabel = (⟨#[108, 97, 98, 101, 108]⟩ : ByteArray) from rfl] at HL
      have y1 := line_size hln
      clear hfit hby hlv hse hbs hln
      generalize ofL (Pl.joinS [Pl.wLabel, nml, Lat.textL lv st, decDigits bt, decDigits bs] ++ [10]) = ln at *
      generalize ofL nml = nm at *
      generalize ofL (Lat.textL lv st) = tx at *
      generalize ofL (decDigits bt) = d1 at *
      generalize ofL (decDigits bs) = d2 at *
      generalize PR (2 + k) = s at *
      generalize hs' : PR (2 + (k + 1)) = s' at *
      have hX0 : RpS wr.heap.size nm lv st bt bs (wr.alloc (.cells #[.string nm, .int .u8 (lv : Int), .int .u32 (st : Int), .int .i64 (bt : Int), .int .u64 (bs : Int)] 72)) (wr.alloc (.cells #[.string nm, .int .u8 (lv : Int), .int .u32 (st : Int), .int .i64 (bt : Int), .int .u64 (bs : Int)] 72)) := ⟨⟨by simp, by simp, by simp, by simp, by simp, by simp⟩, Below.refl _ _⟩
      have HBX := Lib.hid (show Below wr.heap.size wr (wr.alloc (.cells #[.string nm, .int .u8 (lv : Int), .int .u32 (st : Int), .int .i64 (bt : Int), .int .u64 (bs : Int)] 72)) from (Below.refl _ _).alloc (Nat.le_refl _) _)
      have HX0 := Lib.hid hX0
      have HPX := Lib.hid (HPW.out _ (bthen HB1.out HBX.out (Nat.le_refl _)))
      clear hX0
      go_wp2_with fail
      (refine (HD2.out _ HPX.out).mono ?_)
      rintro e w2 ⟨rfl, b2⟩
      have HX1 := Lib.hid (HX0.out.on b2)
      have HB3 := Lib.hid (bthen HBX.out b2 (Nat.le_refl _))
      clear b2 HX0 HBX HPX a0 a1 a2 a3 a4
      go_upto_region 9 with fail
      have HX := Lib.hid ((show P9S wr.heap.size nm lv st bt bs w2 w2 from ⟨⟨HX1.out.1, HPW.out _ (bthen HB1.out HB3.out (Nat.le_refl _))⟩, Below.refl _ _⟩).on (Below.refl _ _).drew)
      clear HX1
      generalize hg : wr.heap.size = g at *
      refine wp_region_noPanic ?_
      refine wp_region_held_drew (S := P9S g nm lv st bt bs w2) (by kernel_rfl) ?_ (fun hHeld => ?_)
      · (try dsimp only); (first | assumption | exact HX.out | exact P9S.on (by assumption) ((Below.refl _ _).alloc (Nat.le_refl _) _) | exact P9S.on (by assumption) hb2)
      refine wpAnyH_take (i := 0) (v := ?_) rfl (by kernel_rfl) (by kernel_rfl) (by kernel_rfl) (fun _ _ _ h => h) (Or.inl ⟨by rfl, ?_⟩) (by assumption) ?_
      rotate_left
      · intro w hSw; (try dsimp only at hSw); go_simp; (try rw [if_neg (by first | omega | (simp [ByteArray.size_append]; omega))]); try with_reducible rfl
      (try simp only [List.getElem_toArray, List.getElem_cons_zero, Act.put, List.setIfInBounds_toArray, List.set_cons_zero, List.set_cons_succ])
      refine wpAnyH_take (i := 1) (v := ?_) rfl (by kernel_rfl) (by kernel_rfl) (by kernel_rfl) (fun _ _ _ h => h) (Or.inl ⟨by rfl, ?_⟩) (by assumption) ?_
      rotate_left
      · intro w hSw; (try dsimp only at hSw); go_simp; (try rw [if_neg (by first | omega | (simp [ByteArray.size_append]; omega))]); try with_reducible rfl
      (try simp only [List.getElem_toArray, List.getElem_cons_succ, List.getElem_cons_zero, Act.put, List.setIfInBounds_toArray, List.set_cons_zero, List.set_cons_succ])
      refine wpAnyH_take (i := 2) (v := ?_) rfl (by kernel_rfl) (by kernel_rfl) (by kernel_rfl) (fun _ _ _ h => h) (Or.inl ⟨by rfl, ?_⟩) (by assumption) ?_
      rotate_left
      · intro w hSw; (try dsimp only at hSw); go_simp; (try rw [if_neg (by first | omega | (simp [ByteArray.size_append]; omega))]); try with_reducible rfl
      (try simp only [List.getElem_toArray, List.getElem_cons_succ, List.getElem_cons_zero, Act.put, List.setIfInBounds_toArray, List.set_cons_zero, List.set_cons_succ])
      refine wpAnyH_take (i := 3) (v := ?_) rfl (by kernel_rfl) (by kernel_rfl) (by kernel_rfl) (fun _ _ _ h => h) (Or.inl ⟨by rfl, ?_⟩) (by assumption) ?_
      rotate_left
      · intro w hSw; (try dsimp only at hSw); go_simp; (try rw [if_neg (by first | omega | (simp [ByteArray.size_append]; omega))]); try with_reducible rfl
      (try simp only [List.getElem_toArray, List.getElem_cons_succ, List.getElem_cons_zero, Act.put, List.setIfInBounds_toArray, List.set_cons_zero, List.set_cons_succ])
      refine wpAnyH_take (i := 4) (v := ?_) rfl (by kernel_rfl) (by kernel_rfl) (by kernel_rfl) (fun _ _ _ h => h) (Or.inl ⟨by rfl, ?_⟩) (by assumption) ?_
      rotate_left
      · intro w hSw; (try dsimp only at hSw); go_simp; (try rw [if_neg (by first | omega | (simp [ByteArray.size_append]; omega))]); try with_reducible rfl
      (try simp only [List.getElem_toArray, List.getElem_cons_succ, List.getElem_cons_zero, Act.put, List.setIfInBounds_toArray, List.set_cons_zero, List.set_cons_succ])
      refine wpAnyH_take (i := 6) (v := ?_) rfl (by kernel_rfl) (by kernel_rfl) (by kernel_rfl) (fun _ _ _ h => h) (Or.inl ⟨by rfl, ?_⟩) (by assumption) ?_
      rotate_left
      · intro w hSw; (try dsimp only at hSw); go_simp; (try rw [if_neg (by first | omega | (simp [ByteArray.size_append]; omega))]); try with_reducible rfl
      (try simp only [List.getElem_toArray, List.getElem_cons_succ, List.getElem_cons_zero, Act.put, List.setIfInBounds_toArray, List.set_cons_zero, List.set_cons_succ])
      refine wpAnyH_take (i := 7) (v := ?_) rfl (by kernel_rfl) (by kernel_rfl) (by kernel_rfl) (fun _ _ _ h => h) (Or.inl ⟨by rfl, ?_⟩) (by assumption) ?_
      rotate_left
      · intro w hSw; (try dsimp only at hSw); go_simp; (try rw [if_neg (by first | omega | (simp [ByteArray.size_append]; omega))]); try with_reducible rfl
      (try simp only [List.getElem_toArray, List.getElem_cons_succ, List.getElem_cons_zero, Act.put, List.setIfInBounds_toArray, List.set_cons_zero, List.set_cons_succ])
      refine wpAnyH_take (i := 9) (v := ?_) rfl (by kernel_rfl) (by kernel_rfl) (by kernel_rfl) (fun _ _ _ h => h) (Or.inl ⟨by rfl, ?_⟩) (by assumption) ?_
      rotate_left
      · intro w hSw; (try dsimp only at hSw); go_simp; (try rw [if_neg (by first | omega | (simp [ByteArray.size_append]; omega))]); try with_reducible rfl
      (try simp only [List.getElem_toArray, List.getElem_cons_succ, List.getElem_cons_zero, Act.put, List.setIfInBounds_toArray, List.set_cons_zero, List.set_cons_succ])
      refine wpAnyH_ready (rs := [5]) (by kernel_rfl) (by simp) ?_
      refine AllReadyH.cons rfl (fun K hK => ?_) (AllReadyH.nil)
      · go_simp
        (go_at_call 42; ((refine (HT.out _ hHeld.1.2).mono ?_); rintro e' wz ⟨rfl, hb2⟩))
        refine hK.out _ _ ?_ (fun hHeld => ?_)
        · (try dsimp only); (first | assumption | exact HX.out | exact P9S.on (by assumption) ((Below.refl _ _).alloc (Nat.le_refl _) _) | exact P9S.on (by assumption) hb2)
        clear hK K
        (try simp only [List.getElem_toArray, List.getElem_cons_succ, List.getElem_cons_zero, Act.put, List.setIfInBounds_toArray, List.set_cons_zero, List.set_cons_succ])
        refine wpAnyH_ready (rs := [8]) (by kernel_rfl) (by simp) ?_
        refine AllReadyH.cons rfl (fun K hK => ?_) (AllReadyH.nil)
        · go_simp
          (go_at_call 40; ((refine (HD1.out _ hHeld.1.2).mono ?_); rintro e' wz ⟨rfl, hb2⟩))
          refine hK.out _ _ ?_ (fun hHeld => ?_)
          · (try dsimp only); (first | assumption | exact HX.out | exact P9S.on (by assumption) ((Below.refl _ _).alloc (Nat.le_refl _) _) | exact P9S.on (by assumption) hb2)
          clear hK K
          (try simp only [List.getElem_toArray, List.getElem_cons_succ, List.getElem_cons_zero, Act.put, List.setIfInBounds_toArray, List.set_cons_zero, List.set_cons_succ])
          refine wpAnyH_ready (rs := [10]) (by kernel_rfl) (by simp) ?_
          refine AllReadyH.cons rfl (fun K hK => ?_) (AllReadyH.nil)
          · go_simp
            refine hK.out _ _ ?_ (fun hHeld => ?_)
            · (try dsimp only); (first | assumption | exact HX.out | exact P9S.on (by assumption) ((Below.refl _ _).alloc (Nat.le_refl _) _) | exact P9S.on (by assumption) hb2)
            clear hK K
            (try simp only [List.getElem_toArray, List.getElem_cons_succ, List.getElem_cons_zero, Act.put, List.setIfInBounds_toArray, List.set_cons_zero, List.set_cons_succ])
            refine wpAnyH_ready (rs := [11]) (by kernel_rfl) (by simp) ?_
            refine AllReadyH.cons rfl (fun K hK => ?_) (AllReadyH.nil)
            · go_simp
              (go_at_call 39; ((refine (HL.out _ _).mono ?_); rintro e' wz ⟨rfl, hb2⟩))
              refine hK.out _ _ ?_ (fun hHeld => ?_)
              · (try dsimp only); (first | assumption | exact HX.out | exact P9S.on (by assumption) ((Below.refl _ _).alloc (Nat.le_refl _) _) | exact P9S.on (by assumption) hb2)
              clear hK K
              (try simp only [List.getElem_toArray, List.getElem_cons_succ, List.getElem_cons_zero, Act.put, List.setIfInBounds_toArray, List.set_cons_zero, List.set_cons_succ])
              refine wpAnyH_take (i := 12) (v := ?_) rfl (by kernel_rfl) (by kernel_rfl) (by kernel_rfl) (fun _ _ _ h => h) (Or.inl ⟨by rfl, ?_⟩) (by assumption) ?_
              rotate_left
              · intro w hSw; (try dsimp only at hSw); go_simp; (try rw [if_neg (by first | omega | (simp [ByteArray.size_append]; omega))]); try with_reducible rfl
              (try simp only [List.getElem_toArray, List.getElem_cons_succ, List.getElem_cons_zero, Act.put, List.setIfInBounds_toArray, List.set_cons_zero, List.set_cons_succ])
              refine wpAnyH_take (i := 13) (v := ?_) rfl (by kernel_rfl) (by kernel_rfl) (by kernel_rfl) (fun _ _ _ h => h) (Or.inl ⟨by rfl, ?_⟩) (by assumption) ?_
              rotate_left
              · intro w hSw; (try dsimp only at hSw); go_simp; (try rw [if_neg (by first | omega | (simp [ByteArray.size_append]; omega))]); try with_reducible rfl
              (try simp only [List.getElem_toArray, List.getElem_cons_succ, List.getElem_cons_zero, Act.put, List.setIfInBounds_toArray, List.set_cons_zero, List.set_cons_succ])
              refine wpAnyH_done (by kernel_rfl) ?_ _
              refine NoPanic.normal ?_
              rw [HS.out]
              have HB2 := Lib.hid (bthen HB3.out hHeld.2 (by omega))
              rw [← hg] at HB2
              clear hHeld HX
              go_wp2_with fail
              go_roundg (gk - 1)
              case rel => rw [← hs']; exact RpL.next HK.out (by have := HK.out; omega) HC1.out HI1.out HB1.out HB2.out
              case measure => have := HK.out; omega
    · obtain rfl : k = pl.length := by have := HK.out; omega
      clear hlt HK
      obtain ⟨c0, c1, c2, c3, c4⟩ := HC1.out
      go_wp2_with fail
      go_loopg [5, 56] sl.length (fun g s i wr => RpL wk gv pl sl gr pa pc sa sc ga gc PR w (2 + pl.length) sl.length g s i wr)
      case atStart => exact ⟨0, by omega, rfl, rfl, HC1.out, HI1.out, HB1.out⟩
      case round =>
        clear c0 c1 c2 c3 c4 HC1 HI1 HB1
        obtain ⟨k, hk, rfl, rfl, hc, hi, hb⟩ := hrel
        have HC1 := Lib.hid hc
        have HI1 := Lib.hid hi
        have HB1 := Lib.hid hb
        have HK := Lib.hid hk
        clear hc hi hb hk
        obtain ⟨c0, c1, c2, c3, c4⟩ := HC1.out
        by_cases hlt : k < sl.length
        · have HS := Lib.hid (HG.out.slot k hlt)
          have hln := HG.out.ls k hlt
          have hsz := HF.out.ssz k (by omega)
          have hx : 0 ≤ sl.getD k 0 ∧ sl.getD k 0 < pl.length := HF.out.fine.slot k hlt
          obtain ⟨b, off, rfl, hbl, d0⟩ := HI1.out.sl.at_ k hlt
          simp only at d0
          generalize sl.getD k 0 = x at *
          obtain ⟨n, rfl⟩ := Int.eq_ofNat_of_zero_le hx.1
          rw [show ((n : Nat) : Int).toNat = n from rfl] at HS hln
          have hn : n < pl.length := by omega
          have hx0 : (0 : Int) ≤ (n : Int) := hx.1
          have hx1 : (n : Int) < (pl.length : Int) := hx.2
          obtain ⟨b', off', rfl, hbl', hfit, hat⟩ := HI1.out.pl.at_ n hn
          obtain ⟨a0, -, -, -, -⟩ := hat
          simp only at a0
          generalize Pl.plc pl n = x at *
          obtain ⟨nml, lv, st, bt, bs⟩ := x
          simp only at a0 HS hln
          have HL := Lib.hid (fun W t => pline2 Pl.wSlot nml hln W t)
          rw [show ofL Pl.wSlot = (⟨#[115, 108, 111, 116]⟩ : ByteArray) from rfl] at HL
          have y1 := line_size hln
          clear hfit hx hln
          generalize ofL (Pl.joinS [Pl.wSlot, nml] ++ [10]) = ln at *
          generalize ofL nml = nm at *
          generalize PR (2 + pl.length + k) = s at *
          generalize hs' : PR (2 + pl.length + (k + 1)) = s' at *
          go_wp2_with fail
          (refine (HL.out _ _).mono ?_)
          rintro e w2 ⟨rfl, b2⟩
          have HB2 := Lib.hid (bthen ((Below.refl wr.heap.size wr).alloc (Nat.le_refl _) _) b2 (Nat.le_refl _))
          clear b2
          go_wp2_with fail
          rw [HS.out]
          go_roundg (gk - 1)
          case rel => rw [← hs']; exact RpL.next HK.out (by have := HK.out; omega) HC1.out HI1.out HB1.out HB2.out
          case measure => have := HK.out; omega
        · obtain rfl : k = sl.length := by have := HK.out; omega
          clear hlt HK
          go_wp2_with fail
          go_loopg [5, 74] gr.length (fun g s i wr => RpL wk gv pl sl gr pa pc sa sc ga gc PR w (2 + pl.length + sl.length) gr.length g s i wr)
          case atStart => exact ⟨0, by omega, rfl, rfl, HC1.out, HI1.out, HB1.out⟩
          case round =>
            clear c0 c1 c2 c3 c4 HC1 HI1 HB1
            obtain ⟨k, hk, rfl, rfl, hc, hi, hb⟩ := hrel
            have HC1 := Lib.hid hc
            have HI1 := Lib.hid hi
            have HB1 := Lib.hid hb
            have HK := Lib.hid hk
            clear hc hi hb hk
            obtain ⟨c0, c1, c2, c3, c4⟩ := HC1.out
            by_cases hlt : k < gr.length
            · have HS := Lib.hid (HG.out.grant k hlt)
              have hln := HG.out.lgr k hlt
              have hsz := HF.out.gsz k (by omega)
              have hx : 0 ≤ (Pl.grn gr k).fr ∧ (Pl.grn gr k).fr < pl.length ∧ 0 ≤ (Pl.grn gr k).to ∧ (Pl.grn gr k).to < pl.length ∧ 0 ≤ (Pl.grn gr k).bud ∧ (Pl.grn gr k).bud ≤ 16 := HF.out.fine.grant k hlt
              obtain ⟨b, off, rfl, hbl, q0, q1, q2⟩ := HI1.out.gr.at_ k hlt
              generalize Pl.grn gr k = x at *
              obtain ⟨xf, xt, xb⟩ := x
              simp only at q0 q1 q2 hx HS hln
              obtain ⟨hx1, hx2, hx3, hx4, hx5, hx6⟩ := hx
              obtain ⟨nf, rfl⟩ := Int.eq_ofNat_of_zero_le hx1
              obtain ⟨nt, rfl⟩ := Int.eq_ofNat_of_zero_le hx3
              obtain ⟨bd, rfl⟩ := Int.eq_ofNat_of_zero_le hx5
              rw [show ((nf : Nat) : Int).toNat = nf from rfl, show ((nt : Nat) : Int).toNat = nt from rfl, show ((bd : Nat) : Int).toNat = bd from rfl] at HS hln
              have hnf : nf < pl.length := by omega
              have hnt : nt < pl.length := by omega
              obtain ⟨bp, op, rfl, hbp, -, hatf⟩ := HI1.out.pl.at_ nf hnf
              obtain ⟨bp', op', e6, -, -, hatt⟩ := HI1.out.pl.at_ nt hnt
              obtain ⟨rfl, rfl⟩ : bp = bp' ∧ op = op' := by simpa using e6
              obtain ⟨a0, -, -, -, -⟩ := hatf
              obtain ⟨f0, -, -, -, -⟩ := hatt
              have HD1 := Lib.hid (fun W h => itoa_big bd W (by omega) h)
              have HL := Lib.hid (fun W t => pline4 Pl.wGrant (Pl.plc pl nf).name (Pl.plc pl nt).name (decDigits bd) hln W t)
              rw [show ofL Pl.wGrant = (⟨#[103, 114, 97, 110, 116]⟩ : ByteArray) from rfl] at HL
              have y1 := line_size hln
              clear hln e6
              generalize ofL (Pl.joinS [Pl.wGrant, (Pl.plc pl nf).name, (Pl.plc pl nt).name, decDigits bd] ++ [10]) = ln at *
              generalize ofL (Pl.plc pl nf).name = sf at *
              generalize ofL (Pl.plc pl nt).name = st at *
              generalize ofL (decDigits bd) = d1 at *
              generalize PR (2 + pl.length + sl.length + k) = s at *
              generalize hs' : PR (2 + pl.length + sl.length + (k + 1)) = s' at *
              have hi4 : decide ((0 : Int) ≤ (nf : Int)) = true := decide_eq_true hx1
              have hi5 : decide ((nf : Int) < (pl.length : Int)) = true := decide_eq_true hx2
              have hj4 : decide ((0 : Int) ≤ (nt : Int)) = true := decide_eq_true hx3
              have hj5 : decide ((nt : Int) < (pl.length : Int)) = true := decide_eq_true hx4
              go_upto_region 19 with fail
              have hbx : Below wr.heap.size wr (wr.alloc (.cells #[.int .i64 (nf : Int), .int .i64 (nt : Int), .int .i64 (bd : Int)] 75)) := (Below.refl _ _).alloc (Nat.le_refl _) _
              have hpx := HPW.out _ (bthen HB1.out hbx (Nat.le_refl _))
              have hX0 : P19S wr.heap.size w.heap.size bp op nf nt bd pl.length pc sf st (wr.alloc (.cells #[.int .i64 (nf : Int), .int .i64 (nt : Int), .int .i64 (bd : Int)] 75)) (wr.alloc (.cells #[.int .i64 (nf : Int), .int .i64 (nt : Int), .int .i64 (bd : Int)] 75)) := ⟨⟨(hbx.cell (p := ⟨w.heap.size, 2, none⟩) HC1.out.lt).trans c2, by simp, by simp, by simp, (hbx.cell (p := ⟨bp, op + nf * 5, none⟩) hbp).trans a0, (hbx.cell (p := ⟨bp, op + nt * 5, none⟩) hbp).trans f0, by simp, Nat.lt_of_lt_of_le HC1.out.lt hbx.size, Nat.lt_of_lt_of_le hbp hbx.size, hpx⟩, Below.refl _ _⟩
              have HBX := Lib.hid hbx
              generalize wr.alloc (.cells #[.int .i64 (nf : Int), .int .i64 (nt : Int), .int .i64 (bd : Int)] 75) = wq at *
              have HX := Lib.hid (hX0.on (Below.refl _ _).drew)
              clear hX0 hbx hpx a0 f0 q0 q1 q2
              generalize hg : wr.heap.size = g at *
              refine wp_region_noPanic ?_
              refine wp_region_held_drew (S := P19S g w.heap.size bp op nf nt bd pl.length pc sf st wq) (by kernel_rfl) ?_ (fun hHeld => ?_)
              · (try dsimp only); (first | assumption | exact HX.out | exact P19S.on (by assumption) ((Below.refl _ _).alloc (Nat.le_refl _) _) | exact P19S.on (by assumption) hb2)
              refine wpAnyH_take (i := 0) (v := ?_) rfl (by kernel_rfl) (by kernel_rfl) (by kernel_rfl) (fun _ _ _ h => h) (Or.inl ⟨by rfl, ?_⟩) (by assumption) ?_
              rotate_left
              · intro w hSw; (try dsimp only at hSw); go_simp; (try rw [if_neg (by first | omega | (simp [ByteArray.size_append]; omega))]); try with_reducible rfl
              (try simp only [List.getElem_toArray, List.getElem_cons_zero, Act.put, List.setIfInBounds_toArray, List.set_cons_zero, List.set_cons_succ])
              refine wpAnyH_take (i := 1) (v := ?_) rfl (by kernel_rfl) (by kernel_rfl) (by kernel_rfl) (fun _ _ _ h => h) (Or.inl ⟨by rfl, ?_⟩) (by assumption) ?_
              rotate_left
              · intro w hSw; (try dsimp only at hSw); go_simp; (try rw [if_neg (by first | omega | (simp [ByteArray.size_append]; omega))]); try with_reducible rfl
              (try simp only [List.getElem_toArray, List.getElem_cons_succ, List.getElem_cons_zero, Act.put, List.setIfInBounds_toArray, List.set_cons_zero, List.set_cons_succ])
              refine wpAnyH_take (i := 2) (v := ?_) rfl (by kernel_rfl) (by kernel_rfl) (by kernel_rfl) (fun _ _ _ h => h) (Or.inl ⟨by rfl, ?_⟩) (by assumption) ?_
              rotate_left
              · intro w hSw; (try dsimp only at hSw); go_simp; (try rw [if_neg (by first | omega | (simp [ByteArray.size_append]; omega))]); try with_reducible rfl
              (try simp only [List.getElem_toArray, List.getElem_cons_succ, List.getElem_cons_zero, Act.put, List.setIfInBounds_toArray, List.set_cons_zero, List.set_cons_succ])
              refine wpAnyH_take (i := 3) (v := ?_) rfl (by kernel_rfl) (by kernel_rfl) (by kernel_rfl) (fun _ _ _ h => h) (Or.inl ⟨by rfl, ?_⟩) (by assumption) ?_
              rotate_left
              · intro w hSw; (try dsimp only at hSw); go_simp; (try rw [if_neg (by first | omega | (simp [ByteArray.size_append]; omega))]); try with_reducible rfl
              (try simp only [List.getElem_toArray, List.getElem_cons_succ, List.getElem_cons_zero, Act.put, List.setIfInBounds_toArray, List.set_cons_zero, List.set_cons_succ])
              refine wpAnyH_take (i := 4) (v := ?_) rfl (by kernel_rfl) (by kernel_rfl) (by kernel_rfl) (fun _ _ _ h => h) (Or.inl ⟨by rfl, ?_⟩) (by assumption) ?_
              rotate_left
              · intro w hSw; (try dsimp only at hSw); go_simp; (try rw [if_neg (by first | omega | (simp [ByteArray.size_append]; omega))]); try with_reducible rfl
              (try simp only [List.getElem_toArray, List.getElem_cons_succ, List.getElem_cons_zero, Act.put, List.setIfInBounds_toArray, List.set_cons_zero, List.set_cons_succ])
              refine wpAnyH_take (i := 5) (v := ?_) rfl (by kernel_rfl) (by kernel_rfl) (by kernel_rfl) (fun _ _ _ h => h) (Or.inl ⟨by rfl, ?_⟩) (by assumption) ?_
              rotate_left
              · intro w hSw; (try dsimp only at hSw); go_simp; (try rw [if_neg (by first | omega | (simp [ByteArray.size_append]; omega))]); try with_reducible rfl
              (try simp only [List.getElem_toArray, List.getElem_cons_succ, List.getElem_cons_zero, Act.put, List.setIfInBounds_toArray, List.set_cons_zero, List.set_cons_succ])
              refine wpAnyH_take (i := 6) (v := ?_) rfl (by kernel_rfl) (by kernel_rfl) (by kernel_rfl) (fun _ _ _ h => h) (Or.inl ⟨by rfl, ?_⟩) (by assumption) ?_
              rotate_left
              · intro w hSw; (try dsimp only at hSw); go_simp; (try rw [if_neg (by first | omega | (simp [ByteArray.size_append]; omega))]); try with_reducible rfl
              (try simp only [List.getElem_toArray, List.getElem_cons_succ, List.getElem_cons_zero, Act.put, List.setIfInBounds_toArray, List.set_cons_zero, List.set_cons_succ])
              refine wpAnyH_take (i := 7) (v := ?_) rfl (by kernel_rfl) (by kernel_rfl) (by kernel_rfl) (fun _ _ _ h => h) (Or.inl ⟨by rfl, ?_⟩) (by assumption) ?_
              rotate_left
              · intro w hSw; (try dsimp only at hSw); go_simp; (try rw [if_neg (by first | omega | (simp [ByteArray.size_append]; omega))]); try with_reducible rfl
              (try simp only [List.getElem_toArray, List.getElem_cons_succ, List.getElem_cons_zero, Act.put, List.setIfInBounds_toArray, List.set_cons_zero, List.set_cons_succ])
              refine wpAnyH_take (i := 8) (v := ?_) rfl (by kernel_rfl) (by kernel_rfl) (by kernel_rfl) (fun _ _ _ h => h) (Or.inl ⟨by rfl, ?_⟩) (by assumption) ?_
              rotate_left
              · intro w hSw; (try dsimp only at hSw); go_simp; (try rw [if_neg (by first | omega | (simp [ByteArray.size_append]; omega))]); try with_reducible rfl
              (try simp only [List.getElem_toArray, List.getElem_cons_succ, List.getElem_cons_zero, Act.put, List.setIfInBounds_toArray, List.set_cons_zero, List.set_cons_succ])
              refine wpAnyH_take (i := 9) (v := ?_) rfl (by kernel_rfl) (by kernel_rfl) (by kernel_rfl) (fun _ _ _ h => h) (Or.inl ⟨by rfl, ?_⟩) (by assumption) ?_
              rotate_left
              · intro w hSw; (try dsimp only at hSw); go_simp; (try rw [if_neg (by first | omega | (simp [ByteArray.size_append]; omega))]); try with_reducible rfl
              (try simp only [List.getElem_toArray, List.getElem_cons_succ, List.getElem_cons_zero, Act.put, List.setIfInBounds_toArray, List.set_cons_zero, List.set_cons_succ])
              refine wpAnyH_take (i := 10) (v := ?_) rfl (by kernel_rfl) (by kernel_rfl) (by kernel_rfl) (fun _ _ _ h => h) (Or.inl ⟨by rfl, ?_⟩) (by assumption) ?_
              rotate_left
              · intro w hSw; (try dsimp only at hSw); go_simp; (try rw [if_neg (by first | omega | (simp [ByteArray.size_append]; omega))]); try with_reducible rfl
              (try simp only [List.getElem_toArray, List.getElem_cons_succ, List.getElem_cons_zero, Act.put, List.setIfInBounds_toArray, List.set_cons_zero, List.set_cons_succ])
              refine wpAnyH_take (i := 11) (v := ?_) rfl (by kernel_rfl) (by kernel_rfl) (by kernel_rfl) (fun _ _ _ h => h) (Or.inl ⟨by rfl, ?_⟩) (by assumption) ?_
              rotate_left
              · intro w hSw; (try dsimp only at hSw); go_simp; (try rw [if_neg (by first | omega | (simp [ByteArray.size_append]; omega))]); try with_reducible rfl
              (try simp only [List.getElem_toArray, List.getElem_cons_succ, List.getElem_cons_zero, Act.put, List.setIfInBounds_toArray, List.set_cons_zero, List.set_cons_succ])
              refine wpAnyH_take (i := 12) (v := ?_) rfl (by kernel_rfl) (by kernel_rfl) (by kernel_rfl) (fun _ _ _ h => h) (Or.inl ⟨by rfl, ?_⟩) (by assumption) ?_
              rotate_left
              · intro w hSw; (try dsimp only at hSw); go_simp; (try rw [if_neg (by first | omega | (simp [ByteArray.size_append]; omega))]); try with_reducible rfl
              (try simp only [List.getElem_toArray, List.getElem_cons_succ, List.getElem_cons_zero, Act.put, List.setIfInBounds_toArray, List.set_cons_zero, List.set_cons_succ])
              refine wpAnyH_take (i := 13) (v := ?_) rfl (by kernel_rfl) (by kernel_rfl) (by kernel_rfl) (fun _ _ _ h => h) (Or.inl ⟨by rfl, ?_⟩) (by assumption) ?_
              rotate_left
              · intro w hSw; (try dsimp only at hSw); go_simp; (try rw [if_neg (by first | omega | (simp [ByteArray.size_append]; omega))]); try with_reducible rfl
              (try simp only [List.getElem_toArray, List.getElem_cons_succ, List.getElem_cons_zero, Act.put, List.setIfInBounds_toArray, List.set_cons_zero, List.set_cons_succ])
              refine wpAnyH_take (i := 14) (v := ?_) rfl (by kernel_rfl) (by kernel_rfl) (by kernel_rfl) (fun _ _ _ h => h) (Or.inl ⟨by rfl, ?_⟩) (by assumption) ?_
              rotate_left
              · intro w hSw; (try dsimp only at hSw); go_simp; (try rw [if_neg (by first | omega | (simp [ByteArray.size_append]; omega))]); try with_reducible rfl
              (try simp only [List.getElem_toArray, List.getElem_cons_succ, List.getElem_cons_zero, Act.put, List.setIfInBounds_toArray, List.set_cons_zero, List.set_cons_succ])
              refine wpAnyH_take (i := 15) (v := ?_) rfl (by kernel_rfl) (by kernel_rfl) (by kernel_rfl) (fun _ _ _ h => h) (Or.inl ⟨by rfl, ?_⟩) (by assumption) ?_
              rotate_left
              · intro w hSw; (try dsimp only at hSw); go_simp; (try rw [if_neg (by first | omega | (simp [ByteArray.size_append]; omega))]); try with_reducible rfl
              (try simp only [List.getElem_toArray, List.getElem_cons_succ, List.getElem_cons_zero, Act.put, List.setIfInBounds_toArray, List.set_cons_zero, List.set_cons_succ])
              refine wpAnyH_take (i := 16) (v := ?_) rfl (by kernel_rfl) (by kernel_rfl) (by kernel_rfl) (fun _ _ _ h => h) (Or.inl ⟨by rfl, ?_⟩) (by assumption) ?_
              rotate_left
              · intro w hSw; (try dsimp only at hSw); go_simp; (try rw [if_neg (by first | omega | (simp [ByteArray.size_append]; omega))]); try with_reducible rfl
              (try simp only [List.getElem_toArray, List.getElem_cons_succ, List.getElem_cons_zero, Act.put, List.setIfInBounds_toArray, List.set_cons_zero, List.set_cons_succ])
              refine wpAnyH_ready (rs := [17]) (by kernel_rfl) (by simp) ?_
              refine AllReadyH.cons rfl (fun K hK => ?_) (AllReadyH.nil)
              · go_simp
                (go_at_call 40; ((refine (HD1.out _ hHeld.1.2.2.2.2.2.2.2.2.2).mono ?_); rintro e' wz ⟨rfl, hb2⟩))
                refine hK.out _ _ ?_ (fun hHeld => ?_)
                · (try dsimp only); (first | assumption | exact HX.out | exact P19S.on (by assumption) ((Below.refl _ _).alloc (Nat.le_refl _) _) | exact P19S.on (by assumption) hb2)
                clear hK K
                (try simp only [List.getElem_toArray, List.getElem_cons_succ, List.getElem_cons_zero, Act.put, List.setIfInBounds_toArray, List.set_cons_zero, List.set_cons_succ])
                refine wpAnyH_ready (rs := [18]) (by kernel_rfl) (by simp) ?_
                refine AllReadyH.cons rfl (fun K hK => ?_) (AllReadyH.nil)
                · go_simp
                  refine hK.out _ _ ?_ (fun hHeld => ?_)
                  · (try dsimp only); (first | assumption | exact HX.out | exact P19S.on (by assumption) ((Below.refl _ _).alloc (Nat.le_refl _) _) | exact P19S.on (by assumption) hb2)
                  clear hK K
                  (try simp only [List.getElem_toArray, List.getElem_cons_succ, List.getElem_cons_zero, Act.put, List.setIfInBounds_toArray, List.set_cons_zero, List.set_cons_succ])
                  refine wpAnyH_ready (rs := [19]) (by kernel_rfl) (by simp) ?_
                  refine AllReadyH.cons rfl (fun K hK => ?_) (AllReadyH.nil)
                  · go_simp
                    (go_at_call 39; ((refine (HL.out _ _).mono ?_); rintro e' wz ⟨rfl, hb2⟩))
                    refine hK.out _ _ ?_ (fun hHeld => ?_)
                    · (try dsimp only); (first | assumption | exact HX.out | exact P19S.on (by assumption) ((Below.refl _ _).alloc (Nat.le_refl _) _) | exact P19S.on (by assumption) hb2)
                    clear hK K
                    (try simp only [List.getElem_toArray, List.getElem_cons_succ, List.getElem_cons_zero, Act.put, List.setIfInBounds_toArray, List.set_cons_zero, List.set_cons_succ])
                    refine wpAnyH_take (i := 20) (v := ?_) rfl (by kernel_rfl) (by kernel_rfl) (by kernel_rfl) (fun _ _ _ h => h) (Or.inl ⟨by rfl, ?_⟩) (by assumption) ?_
                    rotate_left
                    · intro w hSw; (try dsimp only at hSw); go_simp; (try rw [if_neg (by first | omega | (simp [ByteArray.size_append]; omega))]); try with_reducible rfl
                    (try simp only [List.getElem_toArray, List.getElem_cons_succ, List.getElem_cons_zero, Act.put, List.setIfInBounds_toArray, List.set_cons_zero, List.set_cons_succ])
                    refine wpAnyH_take (i := 21) (v := ?_) rfl (by kernel_rfl) (by kernel_rfl) (by kernel_rfl) (fun _ _ _ h => h) (Or.inl ⟨by rfl, ?_⟩) (by assumption) ?_
                    rotate_left
                    · intro w hSw; (try dsimp only at hSw); go_simp; (try rw [if_neg (by first | omega | (simp [ByteArray.size_append]; omega))]); try with_reducible rfl
                    (try simp only [List.getElem_toArray, List.getElem_cons_succ, List.getElem_cons_zero, Act.put, List.setIfInBounds_toArray, List.set_cons_zero, List.set_cons_succ])
                    refine wpAnyH_done (by kernel_rfl) ?_ _
                    refine NoPanic.normal ?_
                    rw [HS.out]
                    have HB2 := Lib.hid (bthen HBX.out hHeld.2 (by omega))
                    rw [← hg] at HB2
                    clear hHeld HX
                    go_wp2_with fail
                    go_roundg (gk - 1)
                    case rel => rw [← hs']; exact RpL.next HK.out (by have := HK.out; omega) HC1.out HI1.out HB1.out HB2.out
                    case measure => have := HK.out; omega
            · obtain rfl : k = gr.length := by have := HK.out; omega
              clear hlt HK
              rw [HALL.out]
              go_wp2_with fail
              go_ret2
              exact ⟨rfl, HB1.out⟩
set_option maxRecDepth 100000 in
set_option maxHeartbeats 16000000 in
theorem print_bad (p : Pl.Pol) (pa : Option Addr) (pc : Nat) (sa : Option Addr) (sc : Nat) (ga : Option Addr) (gc : Nat) (w : World) (hp : PolIs w p pa pc sa sc ga gc) (hch : Pl.check p ≠ 0) :
    Calls Tryz.prog 13 #[polV p pa pc sa sc ga gc] w fun e w' => e = .returned (.tuple #[.string ⟨#[]⟩, .int .i64 (Pl.check p : Int)]) ∧ Below w.heap.size w w' := by
  have hal : Below w.heap.size w (w.alloc (.cells #[.int .i64 p.work, .int .i64 p.give, .slice pa p.places.length pc, .slice sa p.slots.length sc, .slice ga p.grants.length gc] 26)) := (Below.refl _ _).alloc (Nat.le_refl _) _
  have HA := Lib.hid hal
  have HCK := Lib.hid (polCheck_any p pa pc sa sc ga gc _ (hp.on hal))
  have hcb : (((Pl.check p : Nat) : Int) != 0) = true := bne_iff_ne.2 (by omega)
  obtain ⟨c0, c1, c2, c3, c4⟩ := Cell5.new w (.int .i64 p.work) (.int .i64 p.give) (.slice pa p.places.length pc) (.slice sa p.slots.length sc) (.slice ga p.grants.length gc) 26
  simp only [polV] at HCK ⊢
  generalize Pl.check p = M at *
  clear hp hal
  go_enter Tryz.func13, Tryz.ntmps13
  go_wp2_with fail
  refine HCK.out.mono ?_
  rintro e w1 ⟨rfl, b1⟩
  have HB := Lib.hid (bthen HA.out b1 (Nat.le_refl _))
  clear b1 c0 c1 c2 c3 c4
  go_wp2_with fail
  go_ret2
  exact ⟨rfl, HB.out⟩
end Go.Proofs.YtokljdaofjgihaaGreatDoor
namespace Go.Proofs.YtokljdaofjgihaaGreatDoor
open Go.ChangeShapes Go.WideShapes Go.ChangeAt Go.RowKit
theorem rprint_any (p : Pl.Pol) (pa : Option Addr) (pc : Nat) (sa : Option Addr) (sc : Nat) (ga : Option Addr) (gc : Nat) (w : World) (hp : PolIs w p pa pc sa sc ga gc) (hF : Pl.Fine p) :
    Calls Tryz.prog 18 #[polV p pa pc sa sc ga gc] w fun e w' => e = .returned (.string (ofL (Pl.print p))) ∧ Below w.heap.size w w' := by
  obtain ⟨wk, gv, pl, sl, gr⟩ := p
  have h1 : 1 ≤ wk := hF.work.1
  have h2 : 1 ≤ gv := hF.give.1
  obtain ⟨wk, rfl⟩ := Int.eq_ofNat_of_zero_le (show 0 ≤ wk by omega)
  obtain ⟨gv, rfl⟩ := Int.eq_ofNat_of_zero_le (show 0 ≤ gv by omega)
  exact rprint_core wk gv pl sl gr pa pc sa sc ga gc _ _ w hp (prf_of wk gv pl sl gr hF)
theorem print_any (p : Pl.Pol) (pa : Option Addr) (pc : Nat) (sa : Option Addr) (sc : Nat) (ga : Option Addr) (gc : Nat) (w : World) (hp : PolIs w p pa pc sa sc ga gc) (hF : Pl.Fine p) (hch : Pl.check p = 0) (hpow : Pow w) :
    Calls Tryz.prog 13 #[polV p pa pc sa sc ga gc] w fun e w' => e = .returned (.tuple #[.string (ofL (Pl.print p)), .int .i64 0]) ∧ Below w.heap.size w w' := by
  obtain ⟨wk, gv, pl, sl, gr⟩ := p
  have h1 : 1 ≤ wk := hF.work.1
  have h2 : 1 ≤ gv := hF.give.1
  obtain ⟨wk, rfl⟩ := Int.eq_ofNat_of_zero_le (show 0 ≤ wk by omega)
  obtain ⟨gv, rfl⟩ := Int.eq_ofNat_of_zero_le (show 0 ≤ gv by omega)
  exact print_core wk gv pl sl gr pa pc sa sc ga gc _ _ w hp (prf_of wk gv pl sl gr hF) (prg_of wk gv pl sl gr hF) hch hpow
set_option maxRecDepth 100000 in
set_option maxHeartbeats 16000000 in
theorem pcheck_walk (p : Pl.Pol) (pa : Option Addr) (pc : Nat) (sa : Option Addr) (sc : Nat) (ga : Option Addr) (gc : Nat) (n : List UInt8) (w : World) (hn : n.length ≤ 9223372036854775807) (h : PolIn w p pa pc sa sc ga gc) (hnil : sa = none → sc = 0) (hE : Env w) (hpow : Pow w) (hbase : ∀ i, i < p.places.length → (Pl.plc p.places i).base < 18446744073709551616) :
    Calls Tryz.prog 3 #[polV p pa pc sa sc ga gc, .string (ofL n)] w fun e w' => e = .returned (.bool true) ∧ Below w.heap.size w w' := by
  have hs : Below w.heap.size w (w.alloc (.cells #[.int .i64 p.work, .int .i64 p.give, .slice pa p.places.length pc, .slice sa p.slots.length sc, .slice ga p.grants.length gc] 26)) := (Below.refl _ _).alloc (Nat.le_refl _) _
  have HAW := Lib.hid (awake5_any _ (hE.on hs))
  have HS := Lib.hid hs
  have HI := Lib.hid (h.on hs)
  have HC0 := Lib.hid (Cell5.new w (.int .i64 p.work) (.int .i64 p.give) (.slice pa p.places.length pc) (.slice sa p.slots.length sc) (.slice ga p.grants.length gc) 26)
  have HL := Lib.hid (fun W (h : PolIn W p pa pc sa sc ga gc) => light_any p pa pc sa sc ga gc W h)
  have HEW := Lib.hid (fun W (h : Below w.heap.size w W) => hE.on h)
  have HPW := Lib.hid (fun W (h : Below w.heap.size w W) => hpow.below h hpow.pos)
  have hz : (ofL n).size = n.length := ofL_size n
  have hset : ∀ i, i < p.places.length → (Pl.plc p.places i).set < 4294967296 := fun i hi => by
    obtain ⟨_, _, _, _, h, _⟩ := h.pl i hi
    exact h
  clear h hs hpow
  simp only [polV] at HL ⊢
  cases hl : light p with
  | false =>
    rw [hl] at HL
    clear hl
    go_enter Tryz.func3, Tryz.ntmps3
    go_wp2_with fail
    refine HAW.out.mono ?_
    rintro e w1 ⟨rfl, b1⟩
    have HC1 := Lib.hid (HC0.out.on b1)
    obtain ⟨c0, c1, c2, c3, c4⟩ := HC1.out
    have HB1 := Lib.hid (HS.out.trans (b1.mono HS.out.size))
    have HI1 := Lib.hid (HI.out.on b1)
    clear b1
    go_wp2_with fail
    refine (HL.out _ HI1.out).mono ?_
    rintro e w2 ⟨rfl, b2⟩
    have HC2 := Lib.hid (HC1.out.on b2)
    have HB2 := Lib.hid (HB1.out.trans (b2.mono HB1.out.size))
    have HI2 := Lib.hid (HI1.out.on b2)
    clear b2 c0 c1 c2 c3 c4
    obtain ⟨c0, c1, c2, c3, c4⟩ := HC2.out
    go_wp2_with fail
    go_ret
    exact ⟨rfl, HB2.out⟩
  | true =>
    rw [hl] at HL
    by_cases h40 : 40 < n.length
    · clear hl
      go_enter Tryz.func3, Tryz.ntmps3
      go_wp2_with fail
      refine HAW.out.mono ?_
      rintro e w1 ⟨rfl, b1⟩
      have HC1 := Lib.hid (HC0.out.on b1)
      obtain ⟨c0, c1, c2, c3, c4⟩ := HC1.out
      have HB1 := Lib.hid (HS.out.trans (b1.mono HS.out.size))
      have HI1 := Lib.hid (HI.out.on b1)
      clear b1
      go_wp2_with fail
      refine (HL.out _ HI1.out).mono ?_
      rintro e w2 ⟨rfl, b2⟩
      have HC2 := Lib.hid (HC1.out.on b2)
      have HB2 := Lib.hid (HB1.out.trans (b2.mono HB1.out.size))
      have HI2 := Lib.hid (HI1.out.on b2)
      clear b2 c0 c1 c2 c3 c4
      obtain ⟨c0, c1, c2, c3, c4⟩ := HC2.out
      go_wp2_with fail
      go_ret
      exact ⟨rfl, HB2.out⟩
    · obtain ⟨s1, s2, s3, -⟩ := light_size hl
      have HLI := Lib.hid (fun W (h : PolIn W p pa pc sa sc ga gc) => h.light hl)
      have HTO := Lib.hid (fun W (h : PolIs W p pa pc sa sc ga gc) => to_any p pa pc sa sc ga gc W h (by omega) (by omega) (by omega) hnil)
      have HCK := Lib.hid (fun W h => polCheck_any p pa pc sa sc ga gc W h)
      have HPF := Lib.hid (fun W h => polFind_any p pa pc sa sc ga gc n W (by omega) h)
      simp only [polV] at HTO HCK HPF
      clear hl
      by_cases hch : Pl.check p = 0
      · rw [hch] at HCK
        have hF := Pl.fine_of hch hset hbase
        have HPR := Lib.hid (fun W h hp => print_any p pa pc sa sc ga gc W h hF hch hp)
        simp only [polV] at HPR
        have hpl : (Pl.print p).length ≤ 90000 := by
          have := Pl.grant_len hF p.grants.length (Nat.le_refl _)
          rw [Pl.pre_all] at this
          omega
        have HPA := Lib.hid (fun W h => pparse2_any (Pl.print p) W hpl h)
        rw [Pl.parse_print hch (fun x hx => by
          obtain ⟨i, hi, e⟩ := List.getElem_of_mem hx
          have a1 := hset i hi
          have a2 := hbase i hi
          rw [Pl.plc_get hi, e] at a1 a2
          exact ⟨a1, a2⟩)] at HPA
        go_enter Tryz.func3, Tryz.ntmps3
        go_wp2_with fail
        refine HAW.out.mono ?_
        rintro e w1 ⟨rfl, b1⟩
        have HC1 := Lib.hid (HC0.out.on b1)
        obtain ⟨c0, c1, c2, c3, c4⟩ := HC1.out
        have HB1 := Lib.hid (HS.out.trans (b1.mono HS.out.size))
        have HI1 := Lib.hid (HI.out.on b1)
        clear b1
        go_wp2_with fail
        refine (HL.out _ HI1.out).mono ?_
        rintro e w2 ⟨rfl, b2⟩
        have HC2 := Lib.hid (HC1.out.on b2)
        have HB2 := Lib.hid (HB1.out.trans (b2.mono HB1.out.size))
        have HI2 := Lib.hid (HI1.out.on b2)
        clear b2 c0 c1 c2 c3 c4
        obtain ⟨c0, c1, c2, c3, c4⟩ := HC2.out
        go_wp2_with fail
        refine (HTO.out _ (HLI.out _ HI2.out)).mono ?_
        rintro e w3 ⟨pa', pc', sa', sc', ga', gc', rfl, hp', b3⟩
        have hal : Below w3.heap.size w3 (w3.alloc (.cells #[.int .i64 p.work, .int .i64 p.give, .slice pa' p.places.length pc', .slice sa' p.slots.length sc', .slice ga' p.grants.length gc'] 32)) := (Below.refl _ _).alloc (Nat.le_refl _) _
        have HX0 := Lib.hid (show PpIn w w.heap.size w3.heap.size p pa pc sa sc ga gc pa' pc' sa' sc' ga' gc' _ from ⟨(HC2.out.on b3).on hal, Cell5.new w3 _ _ _ _ _ 32, ((HLI.out _ HI2.out).on b3).on hal, hp'.on hal, (HB2.out.trans (b3.mono HB2.out.size)).trans (hal.mono (Nat.le_trans HB2.out.size b3.size))⟩)
        have HRF := Lib.hid (fun W h => rfind_any p pa' pc' sa' sc' ga' gc' n W (by omega) (by omega) h)
        have HRC := Lib.hid (fun W h => rcheck_any p pa' pc' sa' sc' ga' gc' W h)
        have HRP := Lib.hid (fun W h => rprint_any p pa' pc' sa' sc' ga' gc' W h hF)
        have HSM := Lib.hid (fun qa qc ra rc ta tc W h0 h1 => rsame_any p qa qc ra rc ta tc pa' pc' sa' sc' ga' gc' W h0 h1)
        clear hp' b3 hal c0 c1 c2 c3 c4
        rw [hch] at HRC
        simp only [polV] at HRF HRC HRP HSM ⊢
        obtain ⟨c0, c1, c2, c3, c4⟩ := HX0.out.b0
        obtain ⟨d0, d1, d2, d3, d4⟩ := HX0.out.b1
        go_wp2_with fail
        refine (HRC.out _ HX0.out.i1).mono ?_
        rintro e w4 ⟨rfl, b4⟩
        have HX1 := Lib.hid (HX0.out.on b4)
        clear b4 HX0 c0 c1 c2 c3 c4 d0 d1 d2 d3 d4
        obtain ⟨c0, c1, c2, c3, c4⟩ := HX1.out.b0
        obtain ⟨d0, d1, d2, d3, d4⟩ := HX1.out.b1
        go_wp2_with fail
        refine (HPR.out _ HX1.out.i0 (HPW.out _ HX1.out.below)).mono ?_
        rintro e w6 ⟨rfl, b4⟩
        have HX2 := Lib.hid (HX1.out.on b4)
        clear b4 HX1 c0 c1 c2 c3 c4 d0 d1 d2 d3 d4
        generalize w3.heap.size = g' at *
        go_upto_region 8 with fail
        have HX := Lib.hid (HX2.out.on (Below.refl _ _).drew)
        clear HX2 HAW HL HC1 HC2 HB1 HB2 HI1 HI2
        generalize hg : w.heap.size = g at *
        go_cut [48] (fun s48 wx => s48 = .bool false ∧ PpIn w g g' p pa pc sa sc ga gc pa' pc' sa' sc' ga' gc' wx)
        case first =>
          refine wp_region_noPanic ?_
          refine wp_region_held_drew (S := PpS w g g' p pa pc sa sc ga gc pa' pc' sa' sc' ga' gc') (by kernel_rfl) ?_ (fun hHeld => ?_)
          · (try dsimp only); (first | assumption | exact HX.out.six | exact PpS.on (by assumption) hb2)
          refine wpAnyH_take (i := 0) (v := ?_) rfl (by kernel_rfl) (by kernel_rfl) (by kernel_rfl) (fun _ _ _ h => h) (Or.inl ⟨by rfl, ?_⟩) (by assumption) ?_
          rotate_left
          · intro w hSw; (try dsimp only at hSw); go_simp; try with_reducible rfl
          (try simp only [List.getElem_toArray, List.getElem_cons_zero, Act.put, List.setIfInBounds_toArray, List.set_cons_zero, List.set_cons_succ])
          refine wpAnyH_take (i := 2) (v := ?_) rfl (by kernel_rfl) (by kernel_rfl) (by kernel_rfl) (fun _ _ _ h => h) (Or.inl ⟨by rfl, ?_⟩) (by assumption) ?_
          rotate_left
          · intro w hSw; (try dsimp only at hSw); go_simp; try with_reducible rfl
          (try simp only [List.getElem_toArray, List.getElem_cons_succ, List.getElem_cons_zero, Act.put, List.setIfInBounds_toArray, List.set_cons_zero, List.set_cons_succ])
          refine wpAnyH_ready (rs := [1]) (by kernel_rfl) (by simp) ?_
          refine AllReadyH.cons rfl (fun K hK => ?_) (AllReadyH.nil)
          · go_simp
            (go_at_call 14; ((with_reducible refine (HCK.out _ hHeld.2.i0).mono ?_); rintro e' wz ⟨rfl, hb2⟩))
            refine hK.out _ _ ?_ (fun hHeld => ?_)
            · (try dsimp only); (first | assumption | exact HX.out.six | exact PpS.on (by assumption) hb2)
            clear hK K
            (try simp only [List.getElem_toArray, List.getElem_cons_succ, List.getElem_cons_zero, Act.put, List.setIfInBounds_toArray, List.set_cons_zero, List.set_cons_succ])
            refine wpAnyH_take (i := 3) (v := ?_) rfl (by kernel_rfl) (by kernel_rfl) (by kernel_rfl) (fun _ _ _ h => h) (Or.inl ⟨by rfl, ?_⟩) (by assumption) ?_
            rotate_left
            · intro w hSw; (try dsimp only at hSw); go_simp; try with_reducible rfl
            (try simp only [List.getElem_toArray, List.getElem_cons_succ, List.getElem_cons_zero, Act.put, List.setIfInBounds_toArray, List.set_cons_zero, List.set_cons_succ])
            refine wpAnyH_take (i := 4) (v := ?_) rfl (by kernel_rfl) (by kernel_rfl) (by kernel_rfl) (fun _ _ _ h => h) (Or.inl ⟨by rfl, ?_⟩) (by assumption) ?_
            rotate_left
            · intro w hSw; (try dsimp only at hSw); go_simp; try with_reducible rfl
            (try simp only [List.getElem_toArray, List.getElem_cons_succ, List.getElem_cons_zero, Act.put, List.setIfInBounds_toArray, List.set_cons_zero, List.set_cons_succ])
            refine wpAnyH_take (i := 5) (v := ?_) rfl (by kernel_rfl) (by kernel_rfl) (by kernel_rfl) (fun _ _ _ h => h) (Or.inl ⟨by rfl, ?_⟩) (by assumption) ?_
            rotate_left
            · intro w hSw; (try dsimp only at hSw); go_simp; try with_reducible rfl
            (try simp only [List.getElem_toArray, List.getElem_cons_succ, List.getElem_cons_zero, Act.put, List.setIfInBounds_toArray, List.set_cons_zero, List.set_cons_succ])
            refine wpAnyH_take (i := 6) (v := ?_) rfl (by kernel_rfl) (by kernel_rfl) (by kernel_rfl) (fun _ _ _ h => h) (Or.inl ⟨by rfl, ?_⟩) (by assumption) ?_
            rotate_left
            · intro w hSw; (try dsimp only at hSw); go_simp; try with_reducible rfl
            (try simp only [List.getElem_toArray, List.getElem_cons_succ, List.getElem_cons_zero, Act.put, List.setIfInBounds_toArray, List.set_cons_zero, List.set_cons_succ])
            refine wpAnyH_take (i := 7) (v := ?_) rfl (by kernel_rfl) (by kernel_rfl) (by kernel_rfl) (fun _ _ _ h => h) (Or.inl ⟨by rfl, ?_⟩) (by assumption) ?_
            rotate_left
            · intro w hSw; (try dsimp only at hSw); go_simp; try with_reducible rfl
            (try simp only [List.getElem_toArray, List.getElem_cons_succ, List.getElem_cons_zero, Act.put, List.setIfInBounds_toArray, List.set_cons_zero, List.set_cons_succ])
            refine wpAnyH_take (i := 8) (v := ?_) rfl (by kernel_rfl) (by kernel_rfl) (by kernel_rfl) (fun _ _ _ h => h) (Or.inl ⟨by rfl, ?_⟩) (by assumption) ?_
            rotate_left
            · intro w hSw; (try dsimp only at hSw); go_simp; try with_reducible rfl
            (try simp only [List.getElem_toArray, List.getElem_cons_succ, List.getElem_cons_zero, Act.put, List.setIfInBounds_toArray, List.set_cons_zero, List.set_cons_succ])
            refine wpAnyH_take (i := 9) (v := ?_) rfl (by kernel_rfl) (by kernel_rfl) (by kernel_rfl) (fun _ _ _ h => h) (Or.inl ⟨by rfl, ?_⟩) (by assumption) ?_
            rotate_left
            · intro w hSw; (try dsimp only at hSw); go_simp; try with_reducible rfl
            (try simp only [List.getElem_toArray, List.getElem_cons_succ, List.getElem_cons_zero, Act.put, List.setIfInBounds_toArray, List.set_cons_zero, List.set_cons_succ])
            refine wpAnyH_take (i := 10) (v := ?_) rfl (by kernel_rfl) (by kernel_rfl) (by kernel_rfl) (fun _ _ _ h => h) (Or.inl ⟨by rfl, ?_⟩) (by assumption) ?_
            rotate_left
            · intro w hSw; (try dsimp only at hSw); go_simp; try with_reducible rfl
            (try simp only [List.getElem_toArray, List.getElem_cons_succ, List.getElem_cons_zero, Act.put, List.setIfInBounds_toArray, List.set_cons_zero, List.set_cons_succ])
            refine wpAnyH_take (i := 11) (v := ?_) rfl (by kernel_rfl) (by kernel_rfl) (by kernel_rfl) (fun _ _ _ h => h) (Or.inl ⟨by rfl, ?_⟩) (by assumption) ?_
            rotate_left
            · intro w hSw; (try dsimp only at hSw); go_simp; try with_reducible rfl
            (try simp only [List.getElem_toArray, List.getElem_cons_succ, List.getElem_cons_zero, Act.put, List.setIfInBounds_toArray, List.set_cons_zero, List.set_cons_succ])
            refine wpAnyH_take (i := 13) (v := ?_) rfl (by kernel_rfl) (by kernel_rfl) (by kernel_rfl) (fun _ _ _ h => h) (Or.inl ⟨by rfl, ?_⟩) (by assumption) ?_
            rotate_left
            · intro w hSw; (try dsimp only at hSw); go_simp; try with_reducible rfl
            (try simp only [List.getElem_toArray, List.getElem_cons_succ, List.getElem_cons_zero, Act.put, List.setIfInBounds_toArray, List.set_cons_zero, List.set_cons_succ])
            refine wpAnyH_take (i := 14) (v := ?_) rfl (by kernel_rfl) (by kernel_rfl) (by kernel_rfl) (fun _ _ _ h => h) (Or.inl ⟨by rfl, ?_⟩) (by assumption) ?_
            rotate_left
            · intro w hSw; (try dsimp only at hSw); go_simp; try with_reducible rfl
            (try simp only [List.getElem_toArray, List.getElem_cons_succ, List.getElem_cons_zero, Act.put, List.setIfInBounds_toArray, List.set_cons_zero, List.set_cons_succ])
            refine wpAnyH_ready (rs := [12]) (by kernel_rfl) (by simp) ?_
            refine AllReadyH.cons rfl (fun K hK => ?_) (AllReadyH.nil)
            · go_simp
              (go_at_call 15; ((with_reducible refine (HPF.out _ hHeld.2.i0.pl).mono ?_); rintro e' wz ⟨rfl, hb2⟩))
              refine hK.out _ _ ?_ (fun hHeld => ?_)
              · (try dsimp only); (first | assumption | exact HX.out.six | exact PpS.on (by assumption) hb2)
              clear hK K
              (try simp only [List.getElem_toArray, List.getElem_cons_succ, List.getElem_cons_zero, Act.put, List.setIfInBounds_toArray, List.set_cons_zero, List.set_cons_succ])
              refine wpAnyH_ready (rs := [15]) (by kernel_rfl) (by simp) ?_
              refine AllReadyH.cons rfl (fun K hK => ?_) (AllReadyH.nil)
              · go_simp
                (go_at_call 16; ((with_reducible refine (HRF.out _ hHeld.2.i1.pl).mono ?_); rintro e' wz ⟨rfl, hb2⟩))
                refine hK.out _ _ ?_ (fun hHeld => ?_)
                · (try dsimp only); (first | assumption | exact HX.out.six | exact PpS.on (by assumption) hb2)
                clear hK K
                (try simp only [List.getElem_toArray, List.getElem_cons_succ, List.getElem_cons_zero, Act.put, List.setIfInBounds_toArray, List.set_cons_zero, List.set_cons_succ])
                refine wpAnyH_take (i := 16) (v := ?_) rfl (by kernel_rfl) (by kernel_rfl) (by kernel_rfl) (fun _ _ _ h => h) (Or.inl ⟨by rfl, ?_⟩) (by assumption) ?_
                rotate_left
                · intro w hSw; (try dsimp only at hSw); go_simp; try with_reducible rfl
                (try simp only [List.getElem_toArray, List.getElem_cons_succ, List.getElem_cons_zero, Act.put, List.setIfInBounds_toArray, List.set_cons_zero, List.set_cons_succ])
                refine wpAnyH_take (i := 17) (v := ?_) rfl (by kernel_rfl) (by kernel_rfl) (by kernel_rfl) (fun _ _ _ h => h) (Or.inl ⟨by rfl, ?_⟩) (by assumption) ?_
                rotate_left
                · intro w hSw; (try dsimp only at hSw); go_simp; try with_reducible rfl
                (try simp only [List.getElem_toArray, List.getElem_cons_succ, List.getElem_cons_zero, Act.put, List.setIfInBounds_toArray, List.set_cons_zero, List.set_cons_succ])
                refine wpAnyH_done (by kernel_rfl) ?_ _
                refine NoPanic.normal ?_
                have hbl := hHeld.2
                clear hHeld
                go_wp2_with fail
                go_meet
                exact ⟨by simp, hbl⟩
        case rest =>
        obtain ⟨rfl, hY⟩ := hcut
        subst hg
        have HY := Lib.hid hY
        clear HX HCK HPF HRF
        obtain ⟨c0, c1, c2, c3, c4⟩ := HY.out.b0
        obtain ⟨d0, d1, d2, d3, d4⟩ := HY.out.b1
        clear hY
        go_wp2_with fail
        refine (HPA.out _ (HEW.out _ HY.out.below)).mono ?_
        rintro e w5 ⟨qa, qc, ra, rc, ta, tc, hnil2, rfl, hp2, b5⟩
        simp only at hp2
        have hal : Below w5.heap.size w5 (w5.alloc (.cells #[.int .i64 p.work, .int .i64 p.give, .slice qa p.places.length qc, .slice ra p.slots.length rc, .slice ta p.grants.length tc] 26)) := (Below.refl _ _).alloc (Nat.le_refl _) _
        have HX3 := Lib.hid (show PpIn w w5.heap.size g' p qa qc ra rc ta tc pa' pc' sa' sc' ga' gc' _ from ⟨Cell5.new w5 _ _ _ _ _ 26, (HY.out.b1.on b5).on hal, hp2.on hal, (HY.out.i1.on b5).on hal, bthen (bthen HY.out.below b5 (Nat.le_refl _)) hal (Nat.le_refl _)⟩)
        have HTO2 := Lib.hid (fun W (h : PolIs W p qa qc ra rc ta tc) => to_any p qa qc ra rc ta tc W h (by omega) (by omega) (by omega) hnil2)
        clear hp2 b5 hal c0 c1 c2 c3 c4 d0 d1 d2 d3 d4
        simp only [polV] at HTO2 ⊢
        go_upto_region 13 with fail
        have HX := Lib.hid (HX3.out.on (Below.refl _ _).drew)
        clear HX3
        refine wp_region_noPanic ?_
        refine wp_region_held_drew (S := PpS w w5.heap.size g' p qa qc ra rc ta tc pa' pc' sa' sc' ga' gc') (by kernel_rfl) ?_ (fun hHeld => ?_)
        · (try dsimp only); (first | assumption | exact HX.out.six | exact PpS.on (by assumption) hb2)
        refine wpAnyH_take (i := 0) (v := ?_) rfl (by kernel_rfl) (by kernel_rfl) (by kernel_rfl) (fun _ _ _ h => h) (Or.inl ⟨by rfl, ?_⟩) (by assumption) ?_
        rotate_left
        · intro w hSw; (try dsimp only at hSw); go_simp; try with_reducible rfl
        (try simp only [List.getElem_toArray, List.getElem_cons_zero, Act.put, List.setIfInBounds_toArray, List.set_cons_zero, List.set_cons_succ])
        refine wpAnyH_take (i := 1) (v := ?_) rfl (by kernel_rfl) (by kernel_rfl) (by kernel_rfl) (fun _ _ _ h => h) (Or.inl ⟨by rfl, ?_⟩) (by assumption) ?_
        rotate_left
        · intro w hSw; (try dsimp only at hSw); go_simp; try with_reducible rfl
        (try simp only [List.getElem_toArray, List.getElem_cons_succ, List.getElem_cons_zero, Act.put, List.setIfInBounds_toArray, List.set_cons_zero, List.set_cons_succ])
        refine wpAnyH_ready (rs := [2]) (by kernel_rfl) (by simp) ?_
        refine AllReadyH.cons rfl (fun K hK => ?_) (AllReadyH.nil)
        · go_simp
          (go_at_call 18; ((with_reducible refine (HRP.out _ hHeld.2.i1).mono ?_); rintro e' wz ⟨rfl, hb2⟩))
          refine hK.out _ _ ?_ (fun hHeld => ?_)
          · (try dsimp only); (first | assumption | exact HX.out.six | exact PpS.on (by assumption) hb2)
          clear hK K
          (try simp only [List.getElem_toArray, List.getElem_cons_succ, List.getElem_cons_zero, Act.put, List.setIfInBounds_toArray, List.set_cons_zero, List.set_cons_succ])
          refine wpAnyH_take (i := 3) (v := ?_) rfl (by kernel_rfl) (by kernel_rfl) (by kernel_rfl) (fun _ _ _ h => h) (Or.inl ⟨by rfl, ?_⟩) (by assumption) ?_
          rotate_left
          · intro w hSw; (try dsimp only at hSw); go_simp; try with_reducible rfl
          (try simp only [List.getElem_toArray, List.getElem_cons_succ, List.getElem_cons_zero, Act.put, List.setIfInBounds_toArray, List.set_cons_zero, List.set_cons_succ])
          refine wpAnyH_take (i := 4) (v := ?_) rfl (by kernel_rfl) (by kernel_rfl) (by kernel_rfl) (fun _ _ _ h => h) (Or.inl ⟨by rfl, ?_⟩) (by assumption) ?_
          rotate_left
          · intro w hSw; (try dsimp only at hSw); go_simp; try with_reducible rfl
          (try simp only [List.getElem_toArray, List.getElem_cons_succ, List.getElem_cons_zero, Act.put, List.setIfInBounds_toArray, List.set_cons_zero, List.set_cons_succ])
          refine wpAnyH_take (i := 5) (v := ?_) rfl (by kernel_rfl) (by kernel_rfl) (by kernel_rfl) (fun _ _ _ h => h) (Or.inl ⟨by rfl, ?_⟩) (by assumption) ?_
          rotate_left
          · intro w hSw; (try dsimp only at hSw); go_simp; try with_reducible rfl
          (try simp only [List.getElem_toArray, List.getElem_cons_succ, List.getElem_cons_zero, Act.put, List.setIfInBounds_toArray, List.set_cons_zero, List.set_cons_succ])
          refine wpAnyH_take (i := 6) (v := ?_) rfl (by kernel_rfl) (by kernel_rfl) (by kernel_rfl) (fun _ _ _ h => h) (Or.inl ⟨by rfl, ?_⟩) (by assumption) ?_
          rotate_left
          · intro w hSw; (try dsimp only at hSw); go_simp; try with_reducible rfl
          (try simp only [List.getElem_toArray, List.getElem_cons_succ, List.getElem_cons_zero, Act.put, List.setIfInBounds_toArray, List.set_cons_zero, List.set_cons_succ])
          refine wpAnyH_take (i := 7) (v := ?_) rfl (by kernel_rfl) (by kernel_rfl) (by kernel_rfl) (fun _ _ _ h => h) (Or.inl ⟨by rfl, ?_⟩) (by assumption) ?_
          rotate_left
          · intro w hSw; (try dsimp only at hSw); go_simp; try with_reducible rfl
          (try simp only [List.getElem_toArray, List.getElem_cons_succ, List.getElem_cons_zero, Act.put, List.setIfInBounds_toArray, List.set_cons_zero, List.set_cons_succ])
          refine wpAnyH_take (i := 8) (v := ?_) rfl (by kernel_rfl) (by kernel_rfl) (by kernel_rfl) (fun _ _ _ h => h) (Or.inl ⟨by rfl, ?_⟩) (by assumption) ?_
          rotate_left
          · intro w hSw; (try dsimp only at hSw); go_simp; try with_reducible rfl
          (try simp only [List.getElem_toArray, List.getElem_cons_succ, List.getElem_cons_zero, Act.put, List.setIfInBounds_toArray, List.set_cons_zero, List.set_cons_succ])
          refine wpAnyH_take (i := 9) (v := ?_) rfl (by kernel_rfl) (by kernel_rfl) (by kernel_rfl) (fun _ _ _ h => h) (Or.inl ⟨by rfl, ?_⟩) (by assumption) ?_
          rotate_left
          · intro w hSw; (try dsimp only at hSw); go_simp; try with_reducible rfl
          (try simp only [List.getElem_toArray, List.getElem_cons_succ, List.getElem_cons_zero, Act.put, List.setIfInBounds_toArray, List.set_cons_zero, List.set_cons_succ])
          refine wpAnyH_take (i := 10) (v := ?_) rfl (by kernel_rfl) (by kernel_rfl) (by kernel_rfl) (fun _ _ _ h => h) (Or.inl ⟨by rfl, ?_⟩) (by assumption) ?_
          rotate_left
          · intro w hSw; (try dsimp only at hSw); go_simp; try with_reducible rfl
          (try simp only [List.getElem_toArray, List.getElem_cons_succ, List.getElem_cons_zero, Act.put, List.setIfInBounds_toArray, List.set_cons_zero, List.set_cons_succ])
          refine wpAnyH_take (i := 11) (v := ?_) rfl (by kernel_rfl) (by kernel_rfl) (by kernel_rfl) (fun _ _ _ h => h) (Or.inl ⟨by rfl, ?_⟩) (by assumption) ?_
          rotate_left
          · intro w hSw; (try dsimp only at hSw); go_simp; try with_reducible rfl
          (try simp only [List.getElem_toArray, List.getElem_cons_succ, List.getElem_cons_zero, Act.put, List.setIfInBounds_toArray, List.set_cons_zero, List.set_cons_succ])
          refine wpAnyH_take (i := 12) (v := ?_) rfl (by kernel_rfl) (by kernel_rfl) (by kernel_rfl) (fun _ _ _ h => h) (Or.inl ⟨by rfl, ?_⟩) (by assumption) ?_
          rotate_left
          · intro w hSw; (try dsimp only at hSw); go_simp; try with_reducible rfl
          (try simp only [List.getElem_toArray, List.getElem_cons_succ, List.getElem_cons_zero, Act.put, List.setIfInBounds_toArray, List.set_cons_zero, List.set_cons_succ])
          refine wpAnyH_take (i := 13) (v := ?_) rfl (by kernel_rfl) (by kernel_rfl) (by kernel_rfl) (fun _ _ _ h => h) (Or.inl ⟨by rfl, ?_⟩) (by assumption) ?_
          rotate_left
          · intro w hSw; (try dsimp only at hSw); go_simp; try with_reducible rfl
          (try simp only [List.getElem_toArray, List.getElem_cons_succ, List.getElem_cons_zero, Act.put, List.setIfInBounds_toArray, List.set_cons_zero, List.set_cons_succ])
          refine wpAnyH_take (i := 15) (v := ?_) rfl (by kernel_rfl) (by kernel_rfl) (by kernel_rfl) (fun _ _ _ h => h) (Or.inl ⟨by rfl, ?_⟩) (by assumption) ?_
          rotate_left
          · intro w hSw; (try dsimp only at hSw); go_simp; try with_reducible rfl
          (try simp only [List.getElem_toArray, List.getElem_cons_succ, List.getElem_cons_zero, Act.put, List.setIfInBounds_toArray, List.set_cons_zero, List.set_cons_succ])
          refine wpAnyH_ready (rs := [14]) (by kernel_rfl) (by simp) ?_
          refine AllReadyH.cons rfl (fun K hK => ?_) (AllReadyH.nil)
          · go_simp
            (go_at_call 11; ((with_reducible refine (HTO2.out _ hHeld.2.i0).mono ?_); rintro e' wz ⟨pa2, pc2, sa2, sc2, ga2, gc2, rfl, hp2, hb2⟩; have HP2 := Lib.hid hp2; clear hp2; simp only [polV]))
            refine hK.out _ _ ?_ (fun hHeld => ?_)
            · (try dsimp only); (first | assumption | exact HX.out.six | exact PpS.on (by assumption) hb2)
            clear hK K
            (try simp only [List.getElem_toArray, List.getElem_cons_succ, List.getElem_cons_zero, Act.put, List.setIfInBounds_toArray, List.set_cons_zero, List.set_cons_succ])
            refine wpAnyH_ready (rs := [16]) (by kernel_rfl) (by simp) ?_
            refine AllReadyH.cons rfl (fun K hK => ?_) (AllReadyH.nil)
            · go_simp
              (go_at_call 19; ((with_reducible refine (HSM.out _ _ _ _ _ _ _ HP2.out hHeld.2.i1).mono ?_); rintro e' wz2 ⟨rfl, hb2⟩))
              refine hK.out _ _ ?_ (fun hHeld => ?_)
              · (try dsimp only); (first | assumption | exact HX.out.six | exact PpS.on (by assumption) hb2)
              clear hK K
              (try simp only [List.getElem_toArray, List.getElem_cons_succ, List.getElem_cons_zero, Act.put, List.setIfInBounds_toArray, List.set_cons_zero, List.set_cons_succ])
              refine wpAnyH_take (i := 17) (v := ?_) rfl (by kernel_rfl) (by kernel_rfl) (by kernel_rfl) (fun _ _ _ h => h) (Or.inl ⟨by rfl, ?_⟩) (by assumption) ?_
              rotate_left
              · intro w hSw; (try dsimp only at hSw); go_simp; try with_reducible rfl
              (try simp only [List.getElem_toArray, List.getElem_cons_succ, List.getElem_cons_zero, Act.put, List.setIfInBounds_toArray, List.set_cons_zero, List.set_cons_succ])
              refine wpAnyH_take (i := 18) (v := ?_) rfl (by kernel_rfl) (by kernel_rfl) (by kernel_rfl) (fun _ _ _ h => h) (Or.inl ⟨by rfl, ?_⟩) (by assumption) ?_
              rotate_left
              · intro w hSw; (try dsimp only at hSw); go_simp; try with_reducible rfl
              (try simp only [List.getElem_toArray, List.getElem_cons_succ, List.getElem_cons_zero, Act.put, List.setIfInBounds_toArray, List.set_cons_zero, List.set_cons_succ])
              refine wpAnyH_done (by kernel_rfl) ?_ _
              refine NoPanic.normal ?_
              have hbl := hHeld.2.below
              go_wp2_with fail
              go_ret
              exact ⟨by simp, hbl⟩
      · have HPR := Lib.hid (fun W h (_ : Pow W) => print_bad p pa pc sa sc ga gc W h hch)
        simp only [polV] at HPR
        have hcb : (((Pl.check p : Nat) : Int) != 0) = true := bne_iff_ne.2 (by omega)
        go_enter Tryz.func3, Tryz.ntmps3
        go_wp2_with fail
        refine HAW.out.mono ?_
        rintro e w1 ⟨rfl, b1⟩
        have HC1 := Lib.hid (HC0.out.on b1)
        obtain ⟨c0, c1, c2, c3, c4⟩ := HC1.out
        have HB1 := Lib.hid (HS.out.trans (b1.mono HS.out.size))
        have HI1 := Lib.hid (HI.out.on b1)
        clear b1
        go_wp2_with fail
        refine (HL.out _ HI1.out).mono ?_
        rintro e w2 ⟨rfl, b2⟩
        have HC2 := Lib.hid (HC1.out.on b2)
        have HB2 := Lib.hid (HB1.out.trans (b2.mono HB1.out.size))
        have HI2 := Lib.hid (HI1.out.on b2)
        clear b2 c0 c1 c2 c3 c4
        obtain ⟨c0, c1, c2, c3, c4⟩ := HC2.out
        go_wp2_with fail
        refine (HTO.out _ (HLI.out _ HI2.out)).mono ?_
        rintro e w3 ⟨pa', pc', sa', sc', ga', gc', rfl, hp', b3⟩
        have hal : Below w3.heap.size w3 (w3.alloc (.cells #[.int .i64 p.work, .int .i64 p.give, .slice pa' p.places.length pc', .slice sa' p.slots.length sc', .slice ga' p.grants.length gc'] 32)) := (Below.refl _ _).alloc (Nat.le_refl _) _
        have HX0 := Lib.hid (show PpIn w w.heap.size w3.heap.size p pa pc sa sc ga gc pa' pc' sa' sc' ga' gc' _ from ⟨(HC2.out.on b3).on hal, Cell5.new w3 _ _ _ _ _ 32, ((HLI.out _ HI2.out).on b3).on hal, hp'.on hal, (HB2.out.trans (b3.mono HB2.out.size)).trans (hal.mono (Nat.le_trans HB2.out.size b3.size))⟩)
        have HRF := Lib.hid (fun W h => rfind_any p pa' pc' sa' sc' ga' gc' n W (by omega) (by omega) h)
        have HRC := Lib.hid (fun W h => rcheck_any p pa' pc' sa' sc' ga' gc' W h)
        have HRP := trivial
        have HSM := Lib.hid (fun qa qc ra rc ta tc W h0 h1 => rsame_any p qa qc ra rc ta tc pa' pc' sa' sc' ga' gc' W h0 h1)
        clear hp' b3 hal c0 c1 c2 c3 c4
        skip
        simp only [polV] at HRF HRC HSM ⊢
        obtain ⟨c0, c1, c2, c3, c4⟩ := HX0.out.b0
        obtain ⟨d0, d1, d2, d3, d4⟩ := HX0.out.b1
        go_wp2_with fail
        refine (HRC.out _ HX0.out.i1).mono ?_
        rintro e w4 ⟨rfl, b4⟩
        have HX1 := Lib.hid (HX0.out.on b4)
        clear b4 HX0 c0 c1 c2 c3 c4 d0 d1 d2 d3 d4
        obtain ⟨c0, c1, c2, c3, c4⟩ := HX1.out.b0
        obtain ⟨d0, d1, d2, d3, d4⟩ := HX1.out.b1
        go_wp2_with fail
        refine (HPR.out _ HX1.out.i0 (HPW.out _ HX1.out.below)).mono ?_
        rintro e w6 ⟨rfl, b4⟩
        have HX2 := Lib.hid (HX1.out.on b4)
        clear b4 HX1 c0 c1 c2 c3 c4 d0 d1 d2 d3 d4
        generalize w3.heap.size = g' at *
        go_upto_region 8 with fail
        have HX := Lib.hid (HX2.out.on (Below.refl _ _).drew)
        clear HX2 HAW HL HC1 HC2 HB1 HB2 HI1 HI2
        generalize hg : w.heap.size = g at *
        go_cut [48] (fun s48 wx => s48 = .bool false ∧ PpIn w g g' p pa pc sa sc ga gc pa' pc' sa' sc' ga' gc' wx)
        case first =>
          refine wp_region_noPanic ?_
          refine wp_region_held_drew (S := PpS w g g' p pa pc sa sc ga gc pa' pc' sa' sc' ga' gc') (by kernel_rfl) ?_ (fun hHeld => ?_)
          · (try dsimp only); (first | assumption | exact HX.out.six | exact PpS.on (by assumption) hb2)
          refine wpAnyH_take (i := 0) (v := ?_) rfl (by kernel_rfl) (by kernel_rfl) (by kernel_rfl) (fun _ _ _ h => h) (Or.inl ⟨by rfl, ?_⟩) (by assumption) ?_
          rotate_left
          · intro w hSw; (try dsimp only at hSw); go_simp; try with_reducible rfl
          (try simp only [List.getElem_toArray, List.getElem_cons_zero, Act.put, List.setIfInBounds_toArray, List.set_cons_zero, List.set_cons_succ])
          refine wpAnyH_take (i := 2) (v := ?_) rfl (by kernel_rfl) (by kernel_rfl) (by kernel_rfl) (fun _ _ _ h => h) (Or.inl ⟨by rfl, ?_⟩) (by assumption) ?_
          rotate_left
          · intro w hSw; (try dsimp only at hSw); go_simp; try with_reducible rfl
          (try simp only [List.getElem_toArray, List.getElem_cons_succ, List.getElem_cons_zero, Act.put, List.setIfInBounds_toArray, List.set_cons_zero, List.set_cons_succ])
          refine wpAnyH_ready (rs := [1]) (by kernel_rfl) (by simp) ?_
          refine AllReadyH.cons rfl (fun K hK => ?_) (AllReadyH.nil)
          · go_simp
            (go_at_call 14; ((with_reducible refine (HCK.out _ hHeld.2.i0).mono ?_); rintro e' wz ⟨rfl, hb2⟩))
            refine hK.out _ _ ?_ (fun hHeld => ?_)
            · (try dsimp only); (first | assumption | exact HX.out.six | exact PpS.on (by assumption) hb2)
            clear hK K
            (try simp only [List.getElem_toArray, List.getElem_cons_succ, List.getElem_cons_zero, Act.put, List.setIfInBounds_toArray, List.set_cons_zero, List.set_cons_succ])
            refine wpAnyH_take (i := 3) (v := ?_) rfl (by kernel_rfl) (by kernel_rfl) (by kernel_rfl) (fun _ _ _ h => h) (Or.inl ⟨by rfl, ?_⟩) (by assumption) ?_
            rotate_left
            · intro w hSw; (try dsimp only at hSw); go_simp; try with_reducible rfl
            (try simp only [List.getElem_toArray, List.getElem_cons_succ, List.getElem_cons_zero, Act.put, List.setIfInBounds_toArray, List.set_cons_zero, List.set_cons_succ])
            refine wpAnyH_take (i := 4) (v := ?_) rfl (by kernel_rfl) (by kernel_rfl) (by kernel_rfl) (fun _ _ _ h => h) (Or.inl ⟨by rfl, ?_⟩) (by assumption) ?_
            rotate_left
            · intro w hSw; (try dsimp only at hSw); go_simp; try with_reducible rfl
            (try simp only [List.getElem_toArray, List.getElem_cons_succ, List.getElem_cons_zero, Act.put, List.setIfInBounds_toArray, List.set_cons_zero, List.set_cons_succ])
            refine wpAnyH_take (i := 5) (v := ?_) rfl (by kernel_rfl) (by kernel_rfl) (by kernel_rfl) (fun _ _ _ h => h) (Or.inl ⟨by rfl, ?_⟩) (by assumption) ?_
            rotate_left
            · intro w hSw; (try dsimp only at hSw); go_simp; try with_reducible rfl
            (try simp only [List.getElem_toArray, List.getElem_cons_succ, List.getElem_cons_zero, Act.put, List.setIfInBounds_toArray, List.set_cons_zero, List.set_cons_succ])
            refine wpAnyH_take (i := 6) (v := ?_) rfl (by kernel_rfl) (by kernel_rfl) (by kernel_rfl) (fun _ _ _ h => h) (Or.inl ⟨by rfl, ?_⟩) (by assumption) ?_
            rotate_left
            · intro w hSw; (try dsimp only at hSw); go_simp; try with_reducible rfl
            (try simp only [List.getElem_toArray, List.getElem_cons_succ, List.getElem_cons_zero, Act.put, List.setIfInBounds_toArray, List.set_cons_zero, List.set_cons_succ])
            refine wpAnyH_take (i := 7) (v := ?_) rfl (by kernel_rfl) (by kernel_rfl) (by kernel_rfl) (fun _ _ _ h => h) (Or.inl ⟨by rfl, ?_⟩) (by assumption) ?_
            rotate_left
            · intro w hSw; (try dsimp only at hSw); go_simp; try with_reducible rfl
            (try simp only [List.getElem_toArray, List.getElem_cons_succ, List.getElem_cons_zero, Act.put, List.setIfInBounds_toArray, List.set_cons_zero, List.set_cons_succ])
            refine wpAnyH_take (i := 8) (v := ?_) rfl (by kernel_rfl) (by kernel_rfl) (by kernel_rfl) (fun _ _ _ h => h) (Or.inl ⟨by rfl, ?_⟩) (by assumption) ?_
            rotate_left
            · intro w hSw; (try dsimp only at hSw); go_simp; try with_reducible rfl
            (try simp only [List.getElem_toArray, List.getElem_cons_succ, List.getElem_cons_zero, Act.put, List.setIfInBounds_toArray, List.set_cons_zero, List.set_cons_succ])
            refine wpAnyH_take (i := 9) (v := ?_) rfl (by kernel_rfl) (by kernel_rfl) (by kernel_rfl) (fun _ _ _ h => h) (Or.inl ⟨by rfl, ?_⟩) (by assumption) ?_
            rotate_left
            · intro w hSw; (try dsimp only at hSw); go_simp; try with_reducible rfl
            (try simp only [List.getElem_toArray, List.getElem_cons_succ, List.getElem_cons_zero, Act.put, List.setIfInBounds_toArray, List.set_cons_zero, List.set_cons_succ])
            refine wpAnyH_take (i := 10) (v := ?_) rfl (by kernel_rfl) (by kernel_rfl) (by kernel_rfl) (fun _ _ _ h => h) (Or.inl ⟨by rfl, ?_⟩) (by assumption) ?_
            rotate_left
            · intro w hSw; (try dsimp only at hSw); go_simp; try with_reducible rfl
            (try simp only [List.getElem_toArray, List.getElem_cons_succ, List.getElem_cons_zero, Act.put, List.setIfInBounds_toArray, List.set_cons_zero, List.set_cons_succ])
            refine wpAnyH_take (i := 11) (v := ?_) rfl (by kernel_rfl) (by kernel_rfl) (by kernel_rfl) (fun _ _ _ h => h) (Or.inl ⟨by rfl, ?_⟩) (by assumption) ?_
            rotate_left
            · intro w hSw; (try dsimp only at hSw); go_simp; try with_reducible rfl
            (try simp only [List.getElem_toArray, List.getElem_cons_succ, List.getElem_cons_zero, Act.put, List.setIfInBounds_toArray, List.set_cons_zero, List.set_cons_succ])
            refine wpAnyH_take (i := 13) (v := ?_) rfl (by kernel_rfl) (by kernel_rfl) (by kernel_rfl) (fun _ _ _ h => h) (Or.inl ⟨by rfl, ?_⟩) (by assumption) ?_
            rotate_left
            · intro w hSw; (try dsimp only at hSw); go_simp; try with_reducible rfl
            (try simp only [List.getElem_toArray, List.getElem_cons_succ, List.getElem_cons_zero, Act.put, List.setIfInBounds_toArray, List.set_cons_zero, List.set_cons_succ])
            refine wpAnyH_take (i := 14) (v := ?_) rfl (by kernel_rfl) (by kernel_rfl) (by kernel_rfl) (fun _ _ _ h => h) (Or.inl ⟨by rfl, ?_⟩) (by assumption) ?_
            rotate_left
            · intro w hSw; (try dsimp only at hSw); go_simp; try with_reducible rfl
            (try simp only [List.getElem_toArray, List.getElem_cons_succ, List.getElem_cons_zero, Act.put, List.setIfInBounds_toArray, List.set_cons_zero, List.set_cons_succ])
            refine wpAnyH_ready (rs := [12]) (by kernel_rfl) (by simp) ?_
            refine AllReadyH.cons rfl (fun K hK => ?_) (AllReadyH.nil)
            · go_simp
              (go_at_call 15; ((with_reducible refine (HPF.out _ hHeld.2.i0.pl).mono ?_); rintro e' wz ⟨rfl, hb2⟩))
              refine hK.out _ _ ?_ (fun hHeld => ?_)
              · (try dsimp only); (first | assumption | exact HX.out.six | exact PpS.on (by assumption) hb2)
              clear hK K
              (try simp only [List.getElem_toArray, List.getElem_cons_succ, List.getElem_cons_zero, Act.put, List.setIfInBounds_toArray, List.set_cons_zero, List.set_cons_succ])
              refine wpAnyH_ready (rs := [15]) (by kernel_rfl) (by simp) ?_
              refine AllReadyH.cons rfl (fun K hK => ?_) (AllReadyH.nil)
              · go_simp
                (go_at_call 16; ((with_reducible refine (HRF.out _ hHeld.2.i1.pl).mono ?_); rintro e' wz ⟨rfl, hb2⟩))
                refine hK.out _ _ ?_ (fun hHeld => ?_)
                · (try dsimp only); (first | assumption | exact HX.out.six | exact PpS.on (by assumption) hb2)
                clear hK K
                (try simp only [List.getElem_toArray, List.getElem_cons_succ, List.getElem_cons_zero, Act.put, List.setIfInBounds_toArray, List.set_cons_zero, List.set_cons_succ])
                refine wpAnyH_take (i := 16) (v := ?_) rfl (by kernel_rfl) (by kernel_rfl) (by kernel_rfl) (fun _ _ _ h => h) (Or.inl ⟨by rfl, ?_⟩) (by assumption) ?_
                rotate_left
                · intro w hSw; (try dsimp only at hSw); go_simp; try with_reducible rfl
                (try simp only [List.getElem_toArray, List.getElem_cons_succ, List.getElem_cons_zero, Act.put, List.setIfInBounds_toArray, List.set_cons_zero, List.set_cons_succ])
                refine wpAnyH_take (i := 17) (v := ?_) rfl (by kernel_rfl) (by kernel_rfl) (by kernel_rfl) (fun _ _ _ h => h) (Or.inl ⟨by rfl, ?_⟩) (by assumption) ?_
                rotate_left
                · intro w hSw; (try dsimp only at hSw); go_simp; try with_reducible rfl
                (try simp only [List.getElem_toArray, List.getElem_cons_succ, List.getElem_cons_zero, Act.put, List.setIfInBounds_toArray, List.set_cons_zero, List.set_cons_succ])
                refine wpAnyH_done (by kernel_rfl) ?_ _
                refine NoPanic.normal ?_
                have hbl := hHeld.2
                clear hHeld
                go_wp2_with fail
                go_meet
                exact ⟨by simp, hbl⟩
        case rest =>
        obtain ⟨rfl, hY⟩ := hcut
        subst hg
        have HY := Lib.hid hY
        clear HX HCK HPF HRF
        obtain ⟨c0, c1, c2, c3, c4⟩ := HY.out.b0
        obtain ⟨d0, d1, d2, d3, d4⟩ := HY.out.b1
        clear hY
        go_wp2_with fail
        go_ret
        exact ⟨by simp, HY.out.below⟩
end Go.Proofs.YtokljdaofjgihaaGreatDoor
namespace Go.Proofs.YtokljdaofjgihaaGreatDoor
open Go.ChangeShapes Go.WideShapes Go.ChangeAt Go.RowKit
set_option maxHeartbeats 2000000 in
theorem place_cellsB {H : Type} {enc : TypeId × Value → H} {W : World} {n : Nat} {b off : Nat} {k : Nat} {cs : List Value} {y : DataW H × List MemPlace} (hcl : cs.length = 5) (hat : ∀ j, j < 5 → W.cell? (((⟨b, off, none⟩ : Addr).add k).add j) = cs[j]?)
    (ht : DataW.trod enc Tryz.prog W 0 (fun _ => true) true n 72 cs = some y) : ∃ x : Pl.Plc, x.set < 4294967296 ∧ x.name.length ≤ 9223372036854775807 ∧ PlcAt W b (off + k) x ∧ x.base < 18446744073709551616 := by
  obtain ⟨c0, c1, c2, c3, c4, rfl⟩ := lst5 hcl
  obtain ⟨ys, n', -, -, -, hyl, hf⟩ := DataW.trod_struct Tryz.underlying72 ht
  obtain ⟨y0, y1, y2, y3, rfl⟩ := lst4 hyl
  have t0 : DataW.trod enc Tryz.prog W 0 (fun _ => true) true n' 9 (([c0, c1, c2, c3, c4].drop 0).take (Tryz.prog.cellsOf 9)) = some y0 := hf 0 _ rfl
  have t1 : DataW.trod enc Tryz.prog W 0 (fun _ => true) true n' 70 (([c0, c1, c2, c3, c4].drop 1).take (Tryz.prog.cellsOf 70)) = some y1 := hf 1 _ rfl
  have t2 : DataW.trod enc Tryz.prog W 0 (fun _ => true) true n' 3 (([c0, c1, c2, c3, c4].drop 3).take (Tryz.prog.cellsOf 3)) = some y2 := hf 2 _ rfl
  have t3 : DataW.trod enc Tryz.prog W 0 (fun _ => true) true n' 54 (([c0, c1, c2, c3, c4].drop 4).take (Tryz.prog.cellsOf 54)) = some y3 := hf 3 _ rfl
  rw [cell_string] at t0
  rw [cell_lab] at t1
  rw [cell_int] at t2
  rw [cell_u64] at t3
  simp only [List.drop, List.take] at t0 t1 t2 t3
  obtain ⟨s, e0, -, w0⟩ := DataW.trod_string Tryz.underlying9 t0
  obtain ⟨x2, e2, -, w2⟩ := DataW.trod_int Tryz.underlying3 t2
  obtain ⟨x3, e3, -, w3⟩ := DataW.trod_int Tryz.underlying54 t3
  obtain ⟨zs, n2, -, -, -, hzl, hg⟩ := DataW.trod_struct Tryz.underlying70 t1
  obtain ⟨z0, z1, rfl⟩ := lst2 hzl
  have u0 : DataW.trod enc Tryz.prog W 0 (fun _ => true) true n2 5 (([c1, c2].drop 0).take (Tryz.prog.cellsOf 5)) = some z0 := hg 0 _ rfl
  have u1 : DataW.trod enc Tryz.prog W 0 (fun _ => true) true n2 68 (([c1, c2].drop 1).take (Tryz.prog.cellsOf 68)) = some z1 := hg 1 _ rfl
  rw [cell_u8] at u0
  rw [cell_u32] at u1
  simp only [List.drop, List.take] at u0 u1
  obtain ⟨xl, f0, -, v0⟩ := DataW.trod_int Tryz.underlying5 u0
  obtain ⟨xs, f1, -, v1⟩ := DataW.trod_int Tryz.underlying68 u1
  simp only [List.cons.injEq, and_true] at e0 e2 e3 f0 f1
  subst e0 e2 e3 f0 f1
  obtain ⟨kl, rfl, -⟩ := nat_of_u8 v0
  obtain ⟨ks, rfl, hks⟩ := nat_of_u32 v1
  obtain ⟨kb, rfl, hkb⟩ := nat_of_u64 w3
  have q0 := hat 0 (by omega)
  have q1 := hat 1 (by omega)
  have q2 := hat 2 (by omega)
  have q3 := hat 3 (by omega)
  have q4 := hat 4 (by omega)
  rw [addr_at] at q0 q1 q2 q3 q4
  exact ⟨⟨s.data.toList, kl, ks, x2, kb⟩, hks, name_len w0, ⟨by rw [ofL_toList]; exact q0, q1, q2, q3, q4⟩, hkb⟩
set_option maxRecDepth 100000 in
set_option maxHeartbeats 2000000 in
theorem pol_openB {H : Type} {enc : TypeId × Value → H} {W : World} {base : Nat} {v : Value} {d : DataW H} {ps : List MemPlace} (hv : Value.okWide Tryz.prog W .any base 26 v)
    (h : DataW.Trod enc Tryz.prog W 0 (fun _ => true) true 26 v d ps) : ∃ (p : Pl.Pol) (pa : Option Addr) (pc : Nat) (sa : Option Addr) (sc : Nat) (ga : Option Addr) (gc : Nat), PolIn W p pa pc sa sc ga gc ∧ (sa = none → sc = 0) ∧ v = polV p pa pc sa sc ga gc ∧ (∀ i, i < p.places.length → (Pl.plc p.places i).base < 18446744073709551616) := by
  obtain ⟨cs, rfl, hsz⟩ := okWide_struct Tryz.underlying26 hv
  obtain ⟨c0, c1, c2, c3, c4, rfl⟩ := arr5 (hsz.trans (show Tryz.prog.cellsOf 26 = 5 by kernel_rfl))
  obtain ⟨fuel, hf⟩ := h
  obtain ⟨ys, n', -, -, -, hyl, hf⟩ := DataW.trod_struct Tryz.underlying26 hf
  obtain ⟨y0, y1, y2, y3, y4, rfl⟩ := lst5 hyl
  have t0 : DataW.trod enc Tryz.prog W 0 (fun _ => true) true n' 3 (([c0, c1, c2, c3, c4].drop 0).take (Tryz.prog.cellsOf 3)) = some y0 := hf 0 _ rfl
  have t1 : DataW.trod enc Tryz.prog W 0 (fun _ => true) true n' 3 (([c0, c1, c2, c3, c4].drop 1).take (Tryz.prog.cellsOf 3)) = some y1 := hf 1 _ rfl
  have t2 : DataW.trod enc Tryz.prog W 0 (fun _ => true) true n' 22 (([c0, c1, c2, c3, c4].drop 2).take (Tryz.prog.cellsOf 22)) = some y2 := hf 2 _ rfl
  have t3 : DataW.trod enc Tryz.prog W 0 (fun _ => true) true n' 23 (([c0, c1, c2, c3, c4].drop 3).take (Tryz.prog.cellsOf 23)) = some y3 := hf 3 _ rfl
  have t4 : DataW.trod enc Tryz.prog W 0 (fun _ => true) true n' 24 (([c0, c1, c2, c3, c4].drop 4).take (Tryz.prog.cellsOf 24)) = some y4 := hf 4 _ rfl
  rw [cell_int] at t0 t1
  rw [show Tryz.prog.cellsOf 22 = 1 by kernel_rfl] at t2
  rw [show Tryz.prog.cellsOf 23 = 1 by kernel_rfl] at t3
  rw [show Tryz.prog.cellsOf 24 = 1 by kernel_rfl] at t4
  simp only [List.drop, List.take] at t0 t1 t2 t3 t4
  obtain ⟨x0, e0, -, w0⟩ := DataW.trod_int Tryz.underlying3 t0
  obtain ⟨x1, e1, -, w1⟩ := DataW.trod_int Tryz.underlying3 t1
  obtain ⟨pa, pl, pc, e2⟩ := Joins.slice_form Tryz.underlying22 t2
  obtain ⟨sa, sl, sc, e3⟩ := Joins.slice_form Tryz.underlying23 t3
  obtain ⟨ga, gl, gc, e4⟩ := Joins.slice_form Tryz.underlying24 t4
  simp only [List.cons.injEq, and_true] at e0 e1 e2 e3 e4
  subst e0 e1 e2 e3 e4
  obtain ⟨a1, a2, a3, a4⟩ := row_open Tryz.underlying22 cell_plc (by decide) t2
  obtain ⟨b1, b2, b3, b4⟩ := row_open Tryz.underlying23 cell_int (by decide) t3
  obtain ⟨g1, g2, g3, g4⟩ := row_open Tryz.underlying24 cell_grn (by decide) t4
  have hP : ∀ i, ∃ x : Pl.Plc, i < pl → ∃ b off, pa = some ⟨b, off, none⟩ ∧ b < W.heap.size ∧ x.set < 4294967296 ∧ x.name.length ≤ 9223372036854775807 ∧ (PlcAt W b (off + i * 5) x ∧ x.base < 18446744073709551616) := fun i => by
    by_cases hi : i < pl
    · obtain ⟨b, off, e, hb, cs, n, y, hcl, hat, ht⟩ := a4 i hi
      obtain ⟨x, h1, h2, h3, h5⟩ := place_cellsB hcl hat ht
      exact ⟨x, fun _ => ⟨b, off, e, hb, h1, h2, h3, h5⟩⟩
    · exact ⟨Pl.Plc.zero, fun h => absurd h hi⟩
  have hS : ∀ i, ∃ x : Int, i < sl → ∃ b off, sa = some ⟨b, off, none⟩ ∧ b < W.heap.size ∧ W.cell? ⟨b, off + i, none⟩ = some (.int .i64 x) := fun i => by
    by_cases hi : i < sl
    · obtain ⟨b, off, e, hb, cs, n, y, hcl, hat, ht⟩ := b4 i hi
      obtain ⟨x, hx, -, -⟩ := DataW.trod_int Tryz.underlying3 ht
      subst hx
      have q := hat 0 (by omega)
      rw [addr_at] at q
      exact ⟨x, fun _ => ⟨b, off, e, hb, by simpa using q⟩⟩
    · exact ⟨0, fun h => absurd h hi⟩
  have hG : ∀ i, ∃ x : Pl.Grn, i < gl → ∃ b off, ga = some ⟨b, off, none⟩ ∧ b < W.heap.size ∧ GrnAt W b (off + i * 3) x := fun i => by
    by_cases hi : i < gl
    · obtain ⟨b, off, e, hb, cs, n, y, hcl, hat, ht⟩ := g4 i hi
      obtain ⟨x, h1⟩ := grant_cells hcl hat ht
      exact ⟨x, fun _ => ⟨b, off, e, hb, h1⟩⟩
    · exact ⟨Pl.Grn.zero, fun h => absurd h hi⟩
  obtain ⟨fp, hfp⟩ := Classical.axiomOfChoice hP
  obtain ⟨fs, hfs⟩ := Classical.axiomOfChoice hS
  obtain ⟨fg, hfg⟩ := Classical.axiomOfChoice hG
  have ep : ∀ i, i < pl → Pl.plc ((List.range pl).map fp) i = fp i := fun i hi => by unfold Pl.plc; simp [List.getD_eq_getElem?_getD, hi]
  have es : ∀ i, i < sl → ((List.range sl).map fs).getD i 0 = fs i := fun i hi => by simp [List.getD_eq_getElem?_getD, hi]
  have eg : ∀ i, i < gl → Pl.grn ((List.range gl).map fg) i = fg i := fun i hi => by unfold Pl.grn; simp [List.getD_eq_getElem?_getD, hi]
  refine ⟨⟨x0, x1, (List.range pl).map fp, (List.range sl).map fs, (List.range gl).map fg⟩, pa, pc, sa, sc, ga, gc, ⟨fun i hi => ?_, ⟨fun i hi => ?_⟩, ⟨fun i hi => ?_⟩, by simp; omega, by simp; omega, by simp; omega, by simpa using a1, by simpa using b1, by simpa using g1⟩, b3, by simp [polV], fun i hi => ?_⟩
  · have hi' : i < pl := by simpa using hi
    simp only
    rw [ep i hi']
    obtain ⟨b, off, e, hb, h1, h2, h3, -⟩ := hfp i hi'
    exact ⟨b, off, e, hb, h1, h2, h3⟩
  · have hi' : i < sl := by simpa using hi
    rw [es i hi']
    exact hfs i hi'
  · have hi' : i < gl := by simpa using hi
    rw [eg i hi']
    exact hfg i hi'
  · have hi' : i < pl := by simpa using hi
    simp only
    rw [ep i hi']
    obtain ⟨_, _, _, _, _, _, _, h5⟩ := hfp i hi'
    exact h5
theorem pow_of5 {W : World} (h : laidMetH Tryz.prog Rows.policyFlowsRow.laid W) : Pow W := by
  have h1 := laidMetH.filter (fun x => x.1 == "internal/strconv.uint64pow10") h
  exact Lib.tabIs_of_head (rest := []) gPow (show (Tryz.prog.globals[(0 : Nat)]?).map (·.type) = some 161 by kernel_rfl) Tryz.underlying161 Tryz.underlying54 (by kernel_rfl) (by kernel_rfl) h1
theorem checkLaw (p : Pl.Pol) (pa : Option Addr) (pc : Nat) (sa : Option Addr) (sc : Nat) (ga : Option Addr) (gc : Nat) (s : ByteArray) (w : World) (hs : s.size ≤ maxLen) (h : PolIn w p pa pc sa sc ga gc) (hnil : sa = none → sc = 0) (hE : Env w) (hpow : Pow w) (hbase : ∀ i, i < p.places.length → (Pl.plc p.places i).base < 18446744073709551616) :
    Calls Tryz.prog 3 #[polV p pa pc sa sc ga gc, .string s] w fun e w' => e = .returned (.bool true) ∧ Below w.heap.size w w' := by
  have hz := ofL_size s.data.toList
  rw [ofL_toList] at hz
  have := pcheck_walk p pa pc sa sc ga gc s.data.toList w (by unfold maxLen at hs; omega) h hnil hE hpow hbase
  rw [ofL_toList] at this
  exact this
end Go.Proofs.YtokljdaofjgihaaGreatDoor
