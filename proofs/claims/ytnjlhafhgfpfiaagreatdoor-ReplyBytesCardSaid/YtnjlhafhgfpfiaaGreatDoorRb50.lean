/-
  WHAT COMES IN, opened: numbers and bytes. What all rows ask of the program alike. A SLICE OF STRUCTS that came in, opened to its cells. HEADS that come in, opened. REPLIES that come in, opened.
-/
import Derived.Test.YtnjlhafhgfpfiaaGreatDoorRb06
import Derived.Test.YtnjlhafhgfpfiaaGreatDoorRb32
import Derived.Test.YtnjlhafhgfpfiaaGreatDoorRows
import Derived.WalkKit
import Derived.ProofKit
import Derived.OpenShut
import Derived.Deep.DeepHandedRow
import Derived.Laws.IdiomArrays
import Derived.Lib.SmallJoins
import Derived.Deep.Slices
import Derived.Deep.Fields
import Derived.ChangeSame
section
namespace Go.Proofs.YtnjlhafhgfpfiaaGreatDoor
open Go.ChangeShapes Go.WideShapes Go.ChangeAt Go.RowKit
theorem own : ownKnob Tryz.prog.godebug = none := by kernel_rfl
theorem laidOut : laidOutB Tryz.prog = true := by kernel_rfl
theorem nat_of_u8 {n : Int} (h : (Lit.int .u8 n).wf = true) : ∃ k : Nat, n = (k : Int) ∧ k < 256 := by
  have hx : 0 ≤ n ∧ n ≤ 255 := by simpa [Lit.wf, IntKind.min, IntKind.max, IntKind.signed, IntKind.bits] using h
  exact ⟨n.toNat, by omega, by omega⟩
theorem nat_of_u16 {n : Int} (h : (Lit.int .u16 n).wf = true) : ∃ k : Nat, n = (k : Int) ∧ k < 65536 := by
  have hx : 0 ≤ n ∧ n ≤ 65535 := by simpa [Lit.wf, IntKind.min, IntKind.max, IntKind.signed, IntKind.bits] using h
  exact ⟨n.toNat, by omega, by omega⟩
theorem byte_of_u8 {n : Int} (h : (Lit.int .u8 n).wf = true) : ∃ b : UInt8, n = ((b.toNat : Nat) : Int) := by
  have hx : 0 ≤ n ∧ n ≤ 255 := by simpa [Lit.wf, IntKind.min, IntKind.max, IntKind.signed, IntKind.bits] using h
  refine ⟨UInt8.ofNat n.toNat, ?_⟩
  simp only [UInt8.toNat_ofNat']
  omega
end Go.Proofs.YtnjlhafhgfpfiaaGreatDoor
end
section
namespace Go.Proofs.YtnjlhafhgfpfiaaGreatDoor.Rw
open Go.ChangeShapes Go.WideShapes Go.Deep
section
variable {H : Type} {enc : TypeId × Value → H} {P : Program} {w : World} {base : Nat} {spare : Nat → Bool} {held : Bool}
theorem open_slice_fields {t e : TypeId} {fs : Array Field} {fuel : Nat} {cs : List Value} {x : DataW H × List MemPlace} (ht : P.underlying t = some (.slice e)) (he : P.underlying e = some (.struct fs))
    (hone : oneCellFields P fs = true) (hC : P.cellsOf e = fs.size) (h : DataW.trod enc P w base spare held fuel t cs = some x) :
    (cs = [.slice none 0 0] ∧ x = (.nil, [])) ∨
    ∃ (a : Addr) (len cap m : Nat) (D : Nat → DataW H) (Pl : Nat → List MemPlace), cs = [.slice (some a) len cap] ∧ base ≤ a.block ∧ len ≤ cap ∧ cap ≤ maxLen ∧ m = (if spare a.block then cap else len) ∧
      x = (.slice ((List.range len).map D) ((List.range (m - len)).map fun j => D (len + j)), MemPlace.row a (m * fs.size) ++ (List.range m).flatMap Pl) ∧
      ∀ i, i < m → ∃ (ys : List (DataW H × List MemPlace)) (n : Nat), D i = .agg (ys.map (·.1)) ∧ Pl i = ys.flatMap (·.2) ∧ ys.length = fs.size ∧
        ∀ (j : Nat) (f : Field), fs[j]? = some f → ∃ (v : Value) (y : DataW H × List MemPlace), w.cell? (a.add (i * fs.size + j)) = some v ∧ ys[j]? = some y ∧ DataW.trod enc P w base spare held n f.type [v] = some y := by
  rcases open_slice ht h with h0 | ⟨a, len, cap, m, n, D, Pl, hcs, hb, hl, hm, hmm, hx, hi⟩
  · exact .inl h0
  · refine .inr ⟨a, len, cap, m, D, Pl, hcs, hb, hl, hm, hmm, by rw [hC] at hx; exact hx, fun i him => ?_⟩
    obtain ⟨cs', hc, ht'⟩ := hi i him
    rw [hC] at hc
    obtain ⟨ys, n', hn', hy, hlen, hyl, hf⟩ := DataW.trod_struct he ht'
    obtain ⟨_, hcl, hat⟩ := World.cells?_some hc
    simp only [Prod.mk.injEq] at hy
    refine ⟨ys, n', hy.1, hy.2, hyl, fun j f hj => ?_⟩
    obtain ⟨ho, hk⟩ := hone_of hone j f hj
    have hjl : j < fs.size := (Array.getElem?_eq_some_iff.1 hj).1
    have hcell := hat j hjl
    have hv : cs'[j]? = some (cs'[j]'(by omega)) := List.getElem?_eq_getElem (by omega)
    have h1 := hf j f hj
    rw [ho, hk] at h1
    have hone' : (cs'.drop j).take 1 = [cs'[j]'(by omega)] := by
      rw [List.drop_eq_getElem_cons (by omega)]
      rfl
    rw [hone'] at h1
    have hys : ys[j]? = some (ys[j]'(by omega)) := List.getElem?_eq_getElem (by omega)
    refine ⟨_, _, ?_, hys, h1.trans hys⟩
    rw [← Go.Deep.add_add, hcell, hv]
end
end Go.Proofs.YtnjlhafhgfpfiaaGreatDoor.Rw
end
section
namespace Go.Proofs.YtnjlhafhgfpfiaaGreatDoor
open Go.ChangeShapes Go.WideShapes Go.Deep
theorem i64_of {n : Int} (h : (Lit.int .i64 n).wf = true) : -9223372036854775808 ≤ n ∧ n < 9223372036854775808 := by
  have hx : -9223372036854775808 ≤ n ∧ n ≤ 9223372036854775807 := by simpa [Lit.wf, IntKind.min, IntKind.max, IntKind.signed, IntKind.bits] using h
  omega
/-- a slice of pairs that came in -/
structure PairsIn (W : World) (A : Option Addr) (len cap : Nat) (l : List Hd.Pr) : Prop where
  len : l.length = len
  at_ : Prs W A l
  fits : ∀ p ∈ l, Hd.Fits p
  le : l.length ≤ cap
  big : l.length ≤ 9223372036854775807
theorem pairs_in {H : Type} {enc : TypeId × Value → H} {W : World} {A : Option Addr} {len cap fuel : Nat} {x : DataW H × List MemPlace}
    (hf : DataW.trod enc Tryz.prog W 0 (fun _ => true) true fuel 26 [.slice A len cap] = some x) : ∃ l : List Hd.Pr, PairsIn W A len cap l := by
  rcases Rw.open_slice_fields Tryz.underlying26 Tryz.underlying86 (by kernel_rfl) (by kernel_rfl) hf with ⟨hcs, _⟩ | ⟨a, l, c, m, D, Pl, hcs, _, hl, hm, hmm, _, hi⟩
  · simp at hcs
    obtain ⟨rfl, rfl, rfl⟩ := hcs
    exact ⟨[], rfl, Prs.nil _ _, fun f hf => by simp at hf, Nat.le_refl _, by simp⟩
  · simp at hcs
    obtain ⟨rfl, rfl, rfl⟩ := hcs
    have hm' : m = cap := by simpa using hmm
    subst hm'
    have hsz : ∀ i, ∃ x : Hd.Pr, i < m → Hd.Fits x ∧ ∃ b off, a = ⟨b, off, none⟩ ∧ b < W.heap.size ∧ PrAt W b (off + i * 4) x := by
      intro i
      by_cases him : i < m
      · obtain ⟨ys, n, _, _, _, hfld⟩ := hi i him
        obtain ⟨v0, y0, k0, _, t0⟩ := hfld 0 _ rfl
        obtain ⟨v1, y1, k1, _, t1⟩ := hfld 1 _ rfl
        obtain ⟨v2, y2, k2, _, t2⟩ := hfld 2 _ rfl
        obtain ⟨v3, y3, k3, _, t3⟩ := hfld 3 _ rfl
        obtain ⟨x0, e0, _, w0⟩ := DataW.trod_string Tryz.underlying9 t0
        obtain ⟨x1, e1, _, w1⟩ := DataW.trod_int Tryz.underlying5 t1
        obtain ⟨x2, e2, _, w2⟩ := DataW.trod_int Tryz.underlying2 t2
        obtain ⟨x3, e3, _, w3⟩ := DataW.trod_string Tryz.underlying9 t3
        obtain ⟨kd, rfl, hkd⟩ := nat_of_u8 w1
        obtain ⟨lo, hi2⟩ := i64_of w2
        simp only [List.cons.injEq, and_true] at e0 e1 e2 e3
        subst e0 e1 e2 e3
        obtain ⟨ys', n', _, _, _, hfld'⟩ := hi 0 (by omega)
        obtain ⟨v', y', k', _, _⟩ := hfld' 0 _ rfl
        obtain ⟨b, off, spot⟩ := a
        have hsp : spot = none := by
          have := World.cell?_spot k'
          simpa [Addr.add] using this
        subst hsp
        have hb : b < W.heap.size := by
          have := World.block_lt_of_cell? W _ k1
          simpa [Addr.add] using this
        have ea : ∀ j, (⟨b, off, none⟩ : Addr).add (i * 4 + j) = ⟨b, off + i * 4 + j, none⟩ := fun j => by
          unfold Addr.add
          split
          · rename_i h0
            have : i * 4 + j = 0 := by simpa using h0
            simp only [Addr.mk.injEq, true_and, and_true]; omega
          · simp only [Addr.mk.injEq, true_and, and_true]; omega
        have q0 := (congrArg W.cell? (ea 0)).symm.trans k0
        have q1 := (congrArg W.cell? (ea 1)).symm.trans k1
        have q2 := (congrArg W.cell? (ea 2)).symm.trans k2
        have q3 := (congrArg W.cell? (ea 3)).symm.trans k3
        exact ⟨⟨x0.data.toList, kd, x2, x3.data.toList⟩, fun _ => ⟨⟨hkd, lo, hi2⟩, b, off, rfl, hb, ⟨by rw [ofL_toList]; exact q0, q1, q2, by rw [ofL_toList]; exact q3⟩⟩⟩
      · exact ⟨Hd.Pr.zero, fun h => absurd h him⟩
    obtain ⟨f, hfn⟩ := Classical.axiomOfChoice hsz
    refine ⟨(List.range len).map f, by simp, ⟨fun i hi' => ?_⟩, fun x hx => ?_, by simp; omega, by simp; unfold maxLen at hm; omega⟩
    · have hil : i < len := by simpa using hi'
      have eg : Hd.pr ((List.range len).map f) i = f i := by unfold Hd.pr; simp [List.getD_eq_getElem?_getD, hil]
      rw [eg]
      obtain ⟨hfit, b, off, rfl, hb, hat⟩ := hfn i (by omega)
      exact ⟨b, off, rfl, hb, hat⟩
    · obtain ⟨i, hi2, rfl⟩ := List.mem_map.1 hx
      exact (hfn i (by have := List.mem_range.1 hi2; omega)).1
end Go.Proofs.YtnjlhafhgfpfiaaGreatDoor
end
section
namespace Go.Proofs.YtnjlhafhgfpfiaaGreatDoor
open Go.ChangeShapes Go.WideShapes Go.ChangeAt Go.RowKit
theorem u64_nat {n : Int} (h : (Lit.int .u64 n).wf = true) : ∃ k : Nat, n = (k : Int) ∧ k < 18446744073709551616 := by
  have hx : 0 ≤ n ∧ n ≤ 18446744073709551615 := by simpa [Lit.wf, IntKind.min, IntKind.max, IntKind.signed, IntKind.bits] using h
  exact ⟨n.toNat, by omega, by omega⟩
theorem txt_big {s : ByteArray} (h : s.size ≤ maxLen) : s.data.toList.length ≤ 9223372036854775807 := by
  have hz := ofL_size s.data.toList
  rw [ofL_toList] at hz
  unfold maxLen at h
  omega
theorem lstOf7 {α : Type} {cs : List α} (h : cs.length = 7) : ∃ c0 c1 c2 c3 c4 c5 c6, cs = [c0, c1, c2, c3, c4, c5, c6] := by
  match cs, h with
  | [c0, c1, c2, c3, c4, c5, c6], _ => exact ⟨c0, c1, c2, c3, c4, c5, c6, rfl⟩
end Go.Proofs.YtnjlhafhgfpfiaaGreatDoor
end
