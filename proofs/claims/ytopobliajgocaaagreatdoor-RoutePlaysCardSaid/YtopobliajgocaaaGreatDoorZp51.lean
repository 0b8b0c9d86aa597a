/-
  WHAT COMES IN, opened: numbers and bytes. What all rows ask of the program alike. A SLICE OF STRUCTS that came in, opened to its cells. HEADS that come in, opened. ACTS ON BOOKS that come in, opened.
-/
import Derived.Test.YtopobliajgocaaaGreatDoorZp06
import Derived.Test.YtopobliajgocaaaGreatDoorZp36
import Derived.Test.YtopobliajgocaaaGreatDoorZp44
import Derived.Test.YtopobliajgocaaaGreatDoorRows
import Derived.WalkKit
import Derived.ProofKit
import Derived.OpenShut
import Derived.Deep.DeepHandedRow
import Derived.Laws.IdiomArrays
import Derived.Lib.SmallJoins
import Derived.Deep.Slices
import Derived.Deep.Fields
import Derived.ChangeSame
section
namespace Go.Proofs.YtopobliajgocaaaGreatDoor
open Go.ChangeShapes Go.WideShapes Go.ChangeAt Go.RowKit
theorem own : ownKnob Tryz.prog.godebug = none := by kernel_rfl
theorem laidOut : laidOutB Tryz.prog = true := by kernel_rfl
theorem nat_of_u8 {n : Int} (h : (Lit.int .u8 n).wf = true) : ∃ k : Nat, n = (k : Int) ∧ k < 256 := by
  have hx : 0 ≤ n ∧ n ≤ 255 := by simpa [Lit.wf, IntKind.min, IntKind.max, IntKind.signed, IntKind.bits] using h
  exact ⟨n.toNat, by omega, by omega⟩
end Go.Proofs.YtopobliajgocaaaGreatDoor
end
section
namespace Go.Proofs.YtopobliajgocaaaGreatDoor.Rw
open Go.ChangeShapes Go.WideShapes Go.Deep
section
variable {H : Type} {enc : TypeId × Value → H} {P : Program} {w : World} {base : Nat} {spare : Nat → Bool} {held : Bool}
theorem open_slice_fields {t e : TypeId} {fs : Array Field} {fuel : Nat} {cs : List Value} {x : DataW H × List MemPlace} (ht : P.underlying t = some (.slice e)) (he : P.underlying e = some (.struct fs))
    (hone : oneCellFields P fs = true) (hC : P.cellsOf e = fs.size) (h : DataW.trod enc P w base spare held fuel t cs = some x) :
    (cs = [.slice none 0 0] ∧ x = (.nil, [])) ∨
    ∃ (a : Addr) (len cap m : Nat) (D : Nat → DataW H) (Pl : Nat → List MemPlace), cs = [.slice (some a) len cap] ∧ base ≤ a.block ∧ len ≤ cap ∧ cap ≤ maxLen ∧ m = (if spare a.block then cap else len) ∧
      x = (.slice ((List.range len).map D) ((List.range (m - len)).map fun j => D (len + j)), MemPlace.row a (m * fs.size) ++ (List.range m).flatMap Pl) ∧
      ∀ i, i < m → ∃ (ys : List (DataW H × List MemPlace)) (n : Nat), D i = .agg (ys.map (·.1)) ∧ Pl i = ys.flatMap (·.2) ∧ ys.length = fs.size ∧
        ∀ (j : Nat) (f : Field), fs[j]? = some f → ∃ (v : Value) (y : DataW H × List MemPlace), w.cell? (a.add (i * fs.size + j)) = some v ∧ ys[j]? = some y ∧ DataW.trod enc P w base spare held n f.type [v] = some y := by
  rcases open_slice ht h with h0 | ⟨a, len, cap, m, n, D, Pl, hcs, hb, hl, hm, hmm, hx, hi⟩
  · exact .inl h0
  · refine .inr ⟨a, len, cap, m, D, Pl, hcs, hb, hl, hm, hmm, by rw [hC] at hx; exact hx, fun i him => ?_⟩
    obtain ⟨cs', hc, ht'⟩ := hi i him
    rw [hC] at hc
    obtain ⟨ys, n', hn', hy, hlen, hyl, hf⟩ := DataW.trod_struct he ht'
    obtain ⟨_, hcl, hat⟩ := World.cells?_some hc
    simp only [Prod.mk.injEq] at hy
    refine ⟨ys, n', hy.1, hy.2, hyl, fun j f hj => ?_⟩
    obtain ⟨ho, hk⟩ := hone_of hone j f hj
    have hjl : j < fs.size := (Array.getElem?_eq_some_iff.1 hj).1
    have hcell := hat j hjl
    have hv : cs'[j]? = some (cs'[j]'(by omega)) := List.getElem?_eq_getElem (by omega)
    have h1 := hf j f hj
    rw [ho, hk] at h1
    have hone' : (cs'.drop j).take 1 = [cs'[j]'(by omega)] := by
      rw [List.drop_eq_getElem_cons (by omega)]
      rfl
    rw [hone'] at h1
    have hys : ys[j]? = some (ys[j]'(by omega)) := List.getElem?_eq_getElem (by omega)
    refine ⟨_, _, ?_, hys, h1.trans hys⟩
    rw [← Go.Deep.add_add, hcell, hv]
end
end Go.Proofs.YtopobliajgocaaaGreatDoor.Rw
end
section
namespace Go.Proofs.YtopobliajgocaaaGreatDoor
open Go.ChangeShapes Go.WideShapes Go.Deep
theorem i64_of {n : Int} (h : (Lit.int .i64 n).wf = true) : -9223372036854775808 ≤ n ∧ n < 9223372036854775808 := by
  have hx : -9223372036854775808 ≤ n ∧ n ≤ 9223372036854775807 := by simpa [Lit.wf, IntKind.min, IntKind.max, IntKind.signed, IntKind.bits] using h
  omega
/-- a slice of pairs that came in -/
structure PairsIn (W : World) (A : Option Addr) (len cap : Nat) (l : List Hd.Pr) : Prop where
  len : l.length = len
  at_ : Prs W A l
  fits : ∀ p ∈ l, Hd.Fits p
  le : l.length ≤ cap
  big : l.length ≤ 9223372036854775807
theorem pairs_in {H : Type} {enc : TypeId × Value → H} {W : World} {A : Option Addr} {len cap fuel : Nat} {x : DataW H × List MemPlace}
    (hf : DataW.trod enc Tryz.prog W 0 (fun _ => true) true fuel 35 [.slice A len cap] = some x) : ∃ l : List Hd.Pr, PairsIn W A len cap l := by
  rcases Rw.open_slice_fields Tryz.underlying35 Tryz.underlying83 (by kernel_rfl) (by kernel_rfl) hf with ⟨hcs, _⟩ | ⟨a, l, c, m, D, Pl, hcs, _, hl, hm, hmm, _, hi⟩
  · simp at hcs
    obtain ⟨rfl, rfl, rfl⟩ := hcs
    exact ⟨[], rfl, Prs.nil _ _, fun f hf => by simp at hf, Nat.le_refl _, by simp⟩
  · simp at hcs
    obtain ⟨rfl, rfl, rfl⟩ := hcs
    have hm' : m = cap := by simpa using hmm
    subst hm'
    have hsz : ∀ i, ∃ x : Hd.Pr, i < m → Hd.Fits x ∧ ∃ b off, a = ⟨b, off, none⟩ ∧ b < W.heap.size ∧ PrAt W b (off + i * 4) x := by
      intro i
      by_cases him : i < m
      · obtain ⟨ys, n, _, _, _, hfld⟩ := hi i him
        obtain ⟨v0, y0, k0, _, t0⟩ := hfld 0 _ rfl
        obtain ⟨v1, y1, k1, _, t1⟩ := hfld 1 _ rfl
        obtain ⟨v2, y2, k2, _, t2⟩ := hfld 2 _ rfl
        obtain ⟨v3, y3, k3, _, t3⟩ := hfld 3 _ rfl
        obtain ⟨x0, e0, _, w0⟩ := DataW.trod_string Tryz.underlying9 t0
        obtain ⟨x1, e1, _, w1⟩ := DataW.trod_int Tryz.underlying5 t1
        obtain ⟨x2, e2, _, w2⟩ := DataW.trod_int Tryz.underlying2 t2
        obtain ⟨x3, e3, _, w3⟩ := DataW.trod_string Tryz.underlying9 t3
        obtain ⟨kd, rfl, hkd⟩ := nat_of_u8 w1
        obtain ⟨lo, hi2⟩ := i64_of w2
        simp only [List.cons.injEq, and_true] at e0 e1 e2 e3
        subst e0 e1 e2 e3
        obtain ⟨ys', n', _, _, _, hfld'⟩ := hi 0 (by omega)
        obtain ⟨v', y', k', _, _⟩ := hfld' 0 _ rfl
        obtain ⟨b, off, spot⟩ := a
        have hsp : spot = none := by
          have := World.cell?_spot k'
          simpa [Addr.add] using this
        subst hsp
        have hb : b < W.heap.size := by
          have := World.block_lt_of_cell? W _ k1
          simpa [Addr.add] using this
        have ea : ∀ j, (⟨b, off, none⟩ : Addr).add (i * 4 + j) = ⟨b, off + i * 4 + j, none⟩ := fun j => by
          unfold Addr.add
          split
          · rename_i h0
            have : i * 4 + j = 0 := by simpa using h0
            simp only [Addr.mk.injEq, true_and, and_true]; omega
          · simp only [Addr.mk.injEq, true_and, and_true]; omega
        have q0 := (congrArg W.cell? (ea 0)).symm.trans k0
        have q1 := (congrArg W.cell? (ea 1)).symm.trans k1
        have q2 := (congrArg W.cell? (ea 2)).symm.trans k2
        have q3 := (congrArg W.cell? (ea 3)).symm.trans k3
        exact ⟨⟨x0.data.toList, kd, x2, x3.data.toList⟩, fun _ => ⟨⟨hkd, lo, hi2⟩, b, off, rfl, hb, ⟨by rw [ofL_toList]; exact q0, q1, q2, by rw [ofL_toList]; exact q3⟩⟩⟩
      · exact ⟨Hd.Pr.zero, fun h => absurd h him⟩
    obtain ⟨f, hfn⟩ := Classical.axiomOfChoice hsz
    refine ⟨(List.range len).map f, by simp, ⟨fun i hi' => ?_⟩, fun x hx => ?_, by simp; omega, by simp; unfold maxLen at hm; omega⟩
    · have hil : i < len := by simpa using hi'
      have eg : Hd.pr ((List.range len).map f) i = f i := by unfold Hd.pr; simp [List.getD_eq_getElem?_getD, hil]
      rw [eg]
      obtain ⟨hfit, b, off, rfl, hb, hat⟩ := hfn i (by omega)
      exact ⟨b, off, rfl, hb, hat⟩
    · obtain ⟨i, hi2, rfl⟩ := List.mem_map.1 hx
      exact (hfn i (by have := List.mem_range.1 hi2; omega)).1
end Go.Proofs.YtopobliajgocaaaGreatDoor
end
section
namespace Go.Proofs.YtopobliajgocaaaGreatDoor
open Go.ChangeShapes Go.WideShapes Go.Deep Go.RowKit
theorem rt_addr {b off : Nat} {k j : Nat} : ((⟨b, off, none⟩ : Addr).add k).add j = ⟨b, off + k + j, none⟩ := by
  unfold Addr.add
  (repeat' split) <;> simp_all <;> omega
theorem rt_row {H : Type} {enc : TypeId × Value → H} {P : Program} {W : World} {t e : TypeId} {C : Nat} {A : Option Addr} {len cap : Nat} {fuel : Nat} {y : DataW H × List MemPlace} (ht : P.underlying t = some (.slice e)) (hC : P.cellsOf e = C) (h0 : 0 < C)
    (h : DataW.trod enc P W 0 (fun _ => true) true fuel t [.slice A len cap] = some y) :
    len ≤ cap ∧ cap ≤ 9223372036854775807 ∧ (A = none → cap = 0) ∧ ∀ i, i < len → ∃ b off, A = some ⟨b, off, none⟩ ∧ b < W.heap.size ∧ ∃ cs n y, cs.length = C ∧ (∀ j, j < C → W.cell? (((⟨b, off, none⟩ : Addr).add (i * C)).add j) = cs[j]?) ∧ DataW.trod enc P W 0 (fun _ => true) true n e cs = some y := by
  rcases open_slice ht h with ⟨hcs, _⟩ | ⟨a, l, c, m, n, D, Q, hcs, _, hl, hm, hmm, _, hi⟩
  · simp at hcs
    obtain ⟨rfl, rfl, rfl⟩ := hcs
    exact ⟨Nat.le_refl _, by omega, fun _ => rfl, fun i hi => absurd hi (by omega)⟩
  · simp at hcs
    obtain ⟨rfl, rfl, rfl⟩ := hcs
    have hm' : m = cap := by simpa using hmm
    subst hm'
    rw [hC] at hi
    refine ⟨hl, by unfold maxLen at hm; omega, (fun e => by cases e), fun i hil => ?_⟩
    obtain ⟨cs', hc, ht'⟩ := hi i (by omega)
    obtain ⟨_, hcl, hat⟩ := World.cells?_some hc
    obtain ⟨b, off, spot⟩ := a
    have hsp : spot = none := by
      obtain ⟨cs0, hc0, -⟩ := hi 0 (by omega)
      obtain ⟨_, hcl0, hat0⟩ := World.cells?_some hc0
      have h1 : W.cell? (((⟨b, off, spot⟩ : Addr).add (0 * C)).add 0) = some (cs0[0]'(by omega)) := by rw [hat0 0 h0, List.getElem?_eq_getElem (by omega)]
      have := World.cell?_spot h1
      simpa [Addr.add] using this
    subst hsp
    have h1 : W.cell? (((⟨b, off, none⟩ : Addr).add (i * C)).add 0) = some (cs'[0]'(by omega)) := by rw [hat 0 h0, List.getElem?_eq_getElem (by omega)]
    have hb : b < W.heap.size := by
      have := World.block_lt_of_cell? W _ h1
      revert this
      unfold Addr.add
      (repeat' split) <;> intro h <;> simpa using h
    exact ⟨b, off, rfl, hb, cs', n, _, hcl, hat, ht'⟩
theorem rc_u8 : Tryz.prog.cellsOf 5 = 1 := by kernel_rfl
theorem rc_str : Tryz.prog.cellsOf 9 = 1 := by kernel_rfl
theorem rc_bool : Tryz.prog.cellsOf 4 = 1 := by kernel_rfl
theorem rc_prs : Tryz.prog.cellsOf 35 = 1 := by kernel_rfl
theorem rc_shop : Tryz.prog.cellsOf 34 = 3 := by kernel_rfl
theorem rc_bind : Tryz.prog.cellsOf 37 = 6 := by kernel_rfl
theorem rc_act : Tryz.prog.cellsOf 39 = 10 := by kernel_rfl
set_option maxRecDepth 100000 in
theorem shop_cells {H : Type} {enc : TypeId × Value → H} {W : World} {n : Nat} {c0 c1 c2 : Value} {y : DataW H × List MemPlace}
    (h : DataW.trod enc Tryz.prog W 0 (fun _ => true) true n 34 [c0, c1, c2] = some y) : ∃ s : Sh, s.sort < 256 ∧ c0 = .string (ofL s.name) ∧ c1 = .int .u8 (s.sort : Int) ∧ c2 = .string (ofL s.to) := by
  obtain ⟨ys, n', -, -, -, hyl, hft⟩ := DataW.trod_struct Tryz.underlying34 h
  match ys, hyl with
  | [y0, y1, y2], _ =>
    have t0 : DataW.trod enc Tryz.prog W 0 (fun _ => true) true n' 9 (([c0, c1, c2].drop 0).take (Tryz.prog.cellsOf 9)) = some y0 := hft 0 _ rfl
    have t1 : DataW.trod enc Tryz.prog W 0 (fun _ => true) true n' 5 (([c0, c1, c2].drop 1).take (Tryz.prog.cellsOf 5)) = some y1 := hft 1 _ rfl
    have t2 : DataW.trod enc Tryz.prog W 0 (fun _ => true) true n' 9 (([c0, c1, c2].drop 2).take (Tryz.prog.cellsOf 9)) = some y2 := hft 2 _ rfl
    rw [rc_str] at t0 t2
    rw [rc_u8] at t1
    simp only [List.drop, List.take] at t0 t1 t2
    obtain ⟨x0, e0, -, w0⟩ := DataW.trod_string Tryz.underlying9 t0
    obtain ⟨x1, e1, -, w1⟩ := DataW.trod_int Tryz.underlying5 t1
    obtain ⟨x2, e2, -, w2⟩ := DataW.trod_string Tryz.underlying9 t2
    simp only [List.cons.injEq, and_true] at e0 e1 e2
    subst e0 e1 e2
    obtain ⟨k, rfl, hk⟩ := nat_of_u8 w1
    exact ⟨⟨x0.data.toList, k, x2.data.toList⟩, hk, by rw [ofL_toList], rfl, by rw [ofL_toList]⟩
set_option maxRecDepth 100000 in
theorem bind_cells {H : Type} {enc : TypeId × Value → H} {W : World} {n : Nat} {c0 c1 c2 c3 c4 c5 : Value} {y : DataW H × List MemPlace}
    (h : DataW.trod enc Tryz.prog W 0 (fun _ => true) true n 37 [c0, c1, c2, c3, c4, c5] = some y) : ∃ (x : Bd) (A : Option Addr) (c : Nat), Prs W A x.want ∧ x.want.length ≤ c ∧ x.want.length ≤ 9223372036854775807 ∧ c0 = .string (ofL x.shop) ∧ c1 = .string (ofL x.to) ∧ c2 = .bool x.up ∧ c3 = .string (ofL x.key) ∧ c4 = .slice A x.want.length c ∧ c5 = .bool x.all := by
  obtain ⟨ys, n', -, -, -, hyl, hft⟩ := DataW.trod_struct Tryz.underlying37 h
  match ys, hyl with
  | [y0, y1, y2, y3, y4, y5], _ =>
    have t0 : DataW.trod enc Tryz.prog W 0 (fun _ => true) true n' 9 (([c0, c1, c2, c3, c4, c5].drop 0).take (Tryz.prog.cellsOf 9)) = some y0 := hft 0 _ rfl
    have t1 : DataW.trod enc Tryz.prog W 0 (fun _ => true) true n' 9 (([c0, c1, c2, c3, c4, c5].drop 1).take (Tryz.prog.cellsOf 9)) = some y1 := hft 1 _ rfl
    have t2 : DataW.trod enc Tryz.prog W 0 (fun _ => true) true n' 4 (([c0, c1, c2, c3, c4, c5].drop 2).take (Tryz.prog.cellsOf 4)) = some y2 := hft 2 _ rfl
    have t3 : DataW.trod enc Tryz.prog W 0 (fun _ => true) true n' 9 (([c0, c1, c2, c3, c4, c5].drop 3).take (Tryz.prog.cellsOf 9)) = some y3 := hft 3 _ rfl
    have t4 : DataW.trod enc Tryz.prog W 0 (fun _ => true) true n' 35 (([c0, c1, c2, c3, c4, c5].drop 4).take (Tryz.prog.cellsOf 35)) = some y4 := hft 4 _ rfl
    have t5 : DataW.trod enc Tryz.prog W 0 (fun _ => true) true n' 4 (([c0, c1, c2, c3, c4, c5].drop 5).take (Tryz.prog.cellsOf 4)) = some y5 := hft 5 _ rfl
    rw [rc_str] at t0 t1 t3
    rw [rc_bool] at t2 t5
    rw [rc_prs] at t4
    simp only [List.drop, List.take] at t0 t1 t2 t3 t4 t5
    obtain ⟨x0, e0, -, -⟩ := DataW.trod_string Tryz.underlying9 t0
    obtain ⟨x1, e1, -, -⟩ := DataW.trod_string Tryz.underlying9 t1
    obtain ⟨b2, e2, -⟩ := DataW.trod_bool Tryz.underlying4 t2
    obtain ⟨x3, e3, -, -⟩ := DataW.trod_string Tryz.underlying9 t3
    obtain ⟨A, len, c, e4⟩ := Joins.slice_form Tryz.underlying35 t4
    obtain ⟨b5, e5, -⟩ := DataW.trod_bool Tryz.underlying4 t5
    simp only [List.cons.injEq, and_true] at e0 e1 e2 e3 e4 e5
    subst e0 e1 e2 e3 e4 e5
    obtain ⟨l, rfl, hP, -, hc, hb⟩ := pairs_in t4
    exact ⟨⟨x0.data.toList, x1.data.toList, b2, x3.data.toList, l, b5⟩, A, c, hP, hc, hb, by rw [ofL_toList], by rw [ofL_toList], rfl, by rw [ofL_toList], rfl, rfl⟩
set_option maxRecDepth 100000 in
theorem act14_cells {H : Type} {enc : TypeId × Value → H} {W : World} {n : Nat} {cs : List Value} {y : DataW H × List MemPlace} (hcl : cs.length = 10)
    (h : DataW.trod enc Tryz.prog W 0 (fun _ => true) true n 39 cs = some y) : ∃ p : RaP, RaIn W p ∧ cs = raL p := by
  obtain ⟨ys, n', -, -, -, hyl, hft⟩ := DataW.trod_struct Tryz.underlying39 h
  match cs, hcl, ys, hyl with
  | [c0, c1, c2, c3, c4, c5, c6, c7, c8, c9], _, [y0, y1, y2], _ =>
    have t0 : DataW.trod enc Tryz.prog W 0 (fun _ => true) true n' 5 (([c0, c1, c2, c3, c4, c5, c6, c7, c8, c9].drop 0).take (Tryz.prog.cellsOf 5)) = some y0 := hft 0 _ rfl
    have t1 : DataW.trod enc Tryz.prog W 0 (fun _ => true) true n' 34 (([c0, c1, c2, c3, c4, c5, c6, c7, c8, c9].drop 1).take (Tryz.prog.cellsOf 34)) = some y1 := hft 1 _ rfl
    have t2 : DataW.trod enc Tryz.prog W 0 (fun _ => true) true n' 37 (([c0, c1, c2, c3, c4, c5, c6, c7, c8, c9].drop 4).take (Tryz.prog.cellsOf 37)) = some y2 := hft 2 _ rfl
    rw [rc_u8] at t0
    rw [rc_shop] at t1
    rw [rc_bind] at t2
    simp only [List.drop, List.take] at t0 t1 t2
    obtain ⟨x0, e0, -, w0⟩ := DataW.trod_int Tryz.underlying5 t0
    simp only [List.cons.injEq, and_true] at e0
    subst e0
    obtain ⟨k, rfl, hk⟩ := nat_of_u8 w0
    obtain ⟨s, hs, rfl, rfl, rfl⟩ := shop_cells t1
    obtain ⟨x, A, c, hP, hc, hb, rfl, rfl, rfl, rfl, rfl, rfl⟩ := bind_cells t2
    exact ⟨⟨k, s, x, A, c⟩, ⟨hP, hc, hb, hs, hk⟩, rfl⟩
set_option maxRecDepth 100000 in
theorem acts14_open {H : Type} {enc : TypeId × Value → H} {W : World} {A : Option Addr} {len cap : Nat} {d : DataW H} {ps : List MemPlace}
    (h : DataW.Trod enc Tryz.prog W 0 (fun _ => true) true 22 (.slice A len cap) d ps) : ∃ l : List RaP, l.length = len ∧ Ras W A l ∧ l.length ≤ 9223372036854775807 := by
  obtain ⟨fuel, hf⟩ := h
  obtain ⟨h1, h2, -, h4⟩ := rt_row Tryz.underlying22 rc_act (by decide) hf
  have hP : ∀ i, ∃ p : RaP, i < len → ∃ b off, A = some ⟨b, off, none⟩ ∧ b < W.heap.size ∧ (∀ j v, (raL p)[j]? = some v → W.cell? ⟨b, off + i * 10 + j, none⟩ = some v) ∧ RaIn W p := fun i => by
    by_cases hi : i < len
    · obtain ⟨b, off, e, hb, cs, n, y, hcl, hat, ht⟩ := h4 i hi
      obtain ⟨p, hin, rfl⟩ := act14_cells hcl ht
      refine ⟨p, fun _ => ⟨b, off, e, hb, fun j v hv => ?_, hin⟩⟩
      have hj : j < 10 := by rw [← hcl]; exact (List.getElem?_eq_some_iff.1 hv).1
      have := hat j hj
      rw [rt_addr] at this
      rw [this]; exact hv
    · exact ⟨⟨0, Bk.Sh0, Bk.Bd0, none, 0⟩, fun h => absurd h hi⟩
  obtain ⟨f, hfn⟩ := Classical.axiomOfChoice hP
  have hll : ((List.range len).map f).length = len := by simp
  refine ⟨(List.range len).map f, hll, ⟨?_, fun p hp => ?_⟩, by rw [hll]; omega⟩
  · refine ⟨fun j v hv => ?_⟩
    have hjl : j < (((List.range len).map f).flatMap raL).length := (List.getElem?_eq_some_iff.1 hv).1
    rw [Rw.flat_len raL 10 (fun _ => rfl), hll] at hjl
    have hi : j / 10 < len := by omega
    obtain ⟨b, off, e, hb, hc, -⟩ := hfn (j / 10) hi
    refine ⟨b, off, e, hb, ?_⟩
    have hg := Rw.flat_get raL 10 (fun _ => rfl) (by decide) ((List.range len).map f) (j / 10) (j % 10) (by rw [hll]; exact hi) (by omega)
    rw [show j / 10 * 10 + j % 10 = j by omega, hv] at hg
    rw [List.getElem_map, List.getElem_range] at hg
    have := hc (j % 10) v hg.symm
    rwa [show off + j / 10 * 10 + j % 10 = off + j by omega] at this
  · obtain ⟨i, hi, rfl⟩ := List.mem_map.1 hp
    obtain ⟨_, _, _, _, _, h5⟩ := hfn i (List.mem_range.1 hi)
    exact h5
end Go.Proofs.YtopobliajgocaaaGreatDoor
end
