/-
  ROWS and MESSAGES that come in, their cells. ITEMS that come in, opened.
-/
import Derived.Test.YtfbajmiiecmelabDoorLo49
import Derived.Test.YtfbajmiiecmelabDoorLo50
import Derived.Deep.Slices
import Derived.Deep.Fields
import Derived.ChangeSame
section
namespace Go.Proofs.YtfbajmiiecmelabDoor
open Go.ChangeShapes Go.WideShapes Go.Deep Go.RowKit
theorem acs_addr {b off : Nat} {k j : Nat} : ((⟨b, off, none⟩ : Addr).add k).add j = ⟨b, off + k + j, none⟩ := by
  unfold Addr.add
  (repeat' split) <;> simp_all <;> omega
theorem acs_row {H : Type} {enc : TypeId × Value → H} {P : Program} {W : World} {t e : TypeId} {C : Nat} {A : Option Addr} {len cap : Nat} {fuel : Nat} {y : DataW H × List MemPlace} (ht : P.underlying t = some (.slice e)) (hC : P.cellsOf e = C) (h0 : 0 < C)
    (h : DataW.trod enc P W 0 (fun _ => true) true fuel t [.slice A len cap] = some y) :
    len ≤ cap ∧ cap ≤ 9223372036854775807 ∧ (A = none → cap = 0) ∧ ∀ i, i < len → ∃ b off, A = some ⟨b, off, none⟩ ∧ b < W.heap.size ∧ ∃ cs n y, cs.length = C ∧ (∀ j, j < C → W.cell? (((⟨b, off, none⟩ : Addr).add (i * C)).add j) = cs[j]?) ∧ DataW.trod enc P W 0 (fun _ => true) true n e cs = some y := by
  rcases open_slice ht h with ⟨hcs, _⟩ | ⟨a, l, c, m, n, D, Q, hcs, _, hl, hm, hmm, _, hi⟩
  · simp at hcs
    obtain ⟨rfl, rfl, rfl⟩ := hcs
    exact ⟨Nat.le_refl _, by omega, fun _ => rfl, fun i hi => absurd hi (by omega)⟩
  · simp at hcs
    obtain ⟨rfl, rfl, rfl⟩ := hcs
    have hm' : m = cap := by simpa using hmm
    subst hm'
    rw [hC] at hi
    refine ⟨hl, by unfold maxLen at hm; omega, (fun e => by cases e), fun i hil => ?_⟩
    obtain ⟨cs', hc, ht'⟩ := hi i (by omega)
    obtain ⟨_, hcl, hat⟩ := World.cells?_some hc
    obtain ⟨b, off, spot⟩ := a
    have hsp : spot = none := by
      obtain ⟨cs0, hc0, -⟩ := hi 0 (by omega)
      obtain ⟨_, hcl0, hat0⟩ := World.cells?_some hc0
      have h1 : W.cell? (((⟨b, off, spot⟩ : Addr).add (0 * C)).add 0) = some (cs0[0]'(by omega)) := by rw [hat0 0 h0, List.getElem?_eq_getElem (by omega)]
      have := World.cell?_spot h1
      simpa [Addr.add] using this
    subst hsp
    have h1 : W.cell? (((⟨b, off, none⟩ : Addr).add (i * C)).add 0) = some (cs'[0]'(by omega)) := by rw [hat 0 h0, List.getElem?_eq_getElem (by omega)]
    have hb : b < W.heap.size := by
      have := World.block_lt_of_cell? W _ h1
      revert this
      unfold Addr.add
      (repeat' split) <;> intro h <;> simpa using h
    exact ⟨b, off, rfl, hb, cs', n, _, hcl, hat, ht'⟩
set_option maxRecDepth 100000 in
set_option maxHeartbeats 2000000 in
set_option maxRecDepth 100000 in
theorem mail_cells {H : Type} {enc : TypeId × Value → H} {W : World} {n : Nat} {cs : List Value} {y : DataW H × List MemPlace} (hcl : cs.length = 7)
    (h : DataW.trod enc Tryd.prog W 0 (fun _ => true) true n 28 cs = some y) : ∃ (x : Ml) (A : Option Addr) (c : Nat), MaIn W x A c ∧ cs = maL x A c := by
  obtain ⟨c0, c1, c2, c3, c4, c5, c6, rfl⟩ := lstOf7 hcl
  obtain ⟨ys, n', -, -, -, hyl, hft⟩ := DataW.trod_struct Tryd.underlying28 h
  obtain ⟨y0, y1, y2, y3, y4, y5, y6, rfl⟩ := lstOf7 hyl
  have t0 : DataW.trod enc Tryd.prog W 0 (fun _ => true) true n' 25 (([c0, c1, c2, c3, c4, c5, c6].drop 0).take (Tryd.prog.cellsOf 25)) = some y0 := hft 0 _ rfl
  rw [show Tryd.prog.cellsOf 25 = 1 by kernel_rfl] at t0
  simp only [List.drop, List.take] at t0
  have t1 : DataW.trod enc Tryd.prog W 0 (fun _ => true) true n' 9 (([c0, c1, c2, c3, c4, c5, c6].drop 1).take (Tryd.prog.cellsOf 9)) = some y1 := hft 1 _ rfl
  rw [show Tryd.prog.cellsOf 9 = 1 by kernel_rfl] at t1
  simp only [List.drop, List.take] at t1
  have t2 : DataW.trod enc Tryd.prog W 0 (fun _ => true) true n' 9 (([c0, c1, c2, c3, c4, c5, c6].drop 2).take (Tryd.prog.cellsOf 9)) = some y2 := hft 2 _ rfl
  rw [show Tryd.prog.cellsOf 9 = 1 by kernel_rfl] at t2
  simp only [List.drop, List.take] at t2
  have t3 : DataW.trod enc Tryd.prog W 0 (fun _ => true) true n' 26 (([c0, c1, c2, c3, c4, c5, c6].drop 3).take (Tryd.prog.cellsOf 26)) = some y3 := hft 3 _ rfl
  rw [show Tryd.prog.cellsOf 26 = 1 by kernel_rfl] at t3
  simp only [List.drop, List.take] at t3
  have t4 : DataW.trod enc Tryd.prog W 0 (fun _ => true) true n' 9 (([c0, c1, c2, c3, c4, c5, c6].drop 4).take (Tryd.prog.cellsOf 9)) = some y4 := hft 4 _ rfl
  rw [show Tryd.prog.cellsOf 9 = 1 by kernel_rfl] at t4
  simp only [List.drop, List.take] at t4
  have t5 : DataW.trod enc Tryd.prog W 0 (fun _ => true) true n' 25 (([c0, c1, c2, c3, c4, c5, c6].drop 5).take (Tryd.prog.cellsOf 25)) = some y5 := hft 5 _ rfl
  rw [show Tryd.prog.cellsOf 25 = 1 by kernel_rfl] at t5
  simp only [List.drop, List.take] at t5
  have t6 : DataW.trod enc Tryd.prog W 0 (fun _ => true) true n' 5 (([c0, c1, c2, c3, c4, c5, c6].drop 6).take (Tryd.prog.cellsOf 5)) = some y6 := hft 6 _ rfl
  rw [show Tryd.prog.cellsOf 5 = 1 by kernel_rfl] at t6
  simp only [List.drop, List.take] at t6
  obtain ⟨x0, e0, -, w0⟩ := DataW.trod_int Tryd.underlying25 t0
  obtain ⟨x1, e1, -, w1⟩ := DataW.trod_string Tryd.underlying9 t1
  obtain ⟨x2, e2, -, w2⟩ := DataW.trod_string Tryd.underlying9 t2
  obtain ⟨A, len, cc, e3⟩ := Joins.slice_form Tryd.underlying26 t3
  obtain ⟨x4, e4, -, w4⟩ := DataW.trod_string Tryd.underlying9 t4
  obtain ⟨x5, e5, -, w5⟩ := DataW.trod_int Tryd.underlying25 t5
  obtain ⟨x6, e6, -, w6⟩ := DataW.trod_int Tryd.underlying5 t6
  simp only [List.cons.injEq, and_true] at e0 e1 e2 e3 e4 e5 e6
  subst e0 e1 e2 e3 e4 e5 e6
  obtain ⟨l, rfl, hP, hfi, hc, hb⟩ := pairs_in t3
  obtain ⟨id, rfl, hid⟩ := u64_nat w0
  obtain ⟨due, rfl, hdue⟩ := u64_nat w5
  obtain ⟨hops, rfl, hho⟩ := nat_of_u8 w6
  exact ⟨⟨id, x1.data.toList, x2.data.toList, l, x4.data.toList, due, hops⟩, A, cc, ⟨hP, hc, hb, ⟨txt_big w1, txt_big w2, txt_big w4⟩, ⟨hid, hdue, hho, hfi⟩⟩, by unfold maL; rw [ofL_toList, ofL_toList, ofL_toList]⟩
theorem cell_mail : Tryd.prog.cellsOf 28 = 7 := by kernel_rfl
end Go.Proofs.YtfbajmiiecmelabDoor
end
section
namespace Go.Proofs.YtfbajmiiecmelabDoor
open Go.ChangeShapes Go.WideShapes Go.Deep Go.RowKit
theorem cell_boolI : Tryd.prog.cellsOf 4 = 1 := by kernel_rfl
theorem cell_item : Tryd.prog.cellsOf 30 = 9 := by kernel_rfl
set_option maxRecDepth 100000 in
theorem item_cells {H : Type} {enc : TypeId × Value → H} {W : World} {n : Nat} {cs : List Value} {y : DataW H × List MemPlace} (hcl : cs.length = 9)
    (h : DataW.trod enc Tryd.prog W 0 (fun _ => true) true n 30 cs = some y) : ∃ p : ItP, MaIn W p.x.m p.A p.c ∧ cs = itL p.x p.A p.c := by
  obtain ⟨ys, n', -, -, -, hyl, hft⟩ := DataW.trod_struct Tryd.underlying30 h
  match cs, hcl, ys, hyl with
  | [a0, a1, a2, a3, a4, a5, a6, a7, a8], _, [y0, y1, y2], _ =>
    have t0 : DataW.trod enc Tryd.prog W 0 (fun _ => true) true n' 28 (([a0, a1, a2, a3, a4, a5, a6, a7, a8].drop 0).take (Tryd.prog.cellsOf 28)) = some y0 := hft 0 _ rfl
    have t1 : DataW.trod enc Tryd.prog W 0 (fun _ => true) true n' 4 (([a0, a1, a2, a3, a4, a5, a6, a7, a8].drop 7).take (Tryd.prog.cellsOf 4)) = some y1 := hft 1 _ rfl
    have t2 : DataW.trod enc Tryd.prog W 0 (fun _ => true) true n' 4 (([a0, a1, a2, a3, a4, a5, a6, a7, a8].drop 8).take (Tryd.prog.cellsOf 4)) = some y2 := hft 2 _ rfl
    rw [cell_mail] at t0
    rw [cell_boolI] at t1 t2
    simp only [List.drop, List.take] at t0 t1 t2
    obtain ⟨x, A, c, hin, e⟩ := mail_cells rfl t0
    obtain ⟨b1, e1, -⟩ := DataW.trod_bool Tryd.underlying4 t1
    obtain ⟨b2, e2, -⟩ := DataW.trod_bool Tryd.underlying4 t2
    unfold maL at e
    simp only [List.cons.injEq, and_true] at e e1 e2
    obtain ⟨rfl, rfl, rfl, rfl, rfl, rfl, rfl⟩ := e
    subst e1 e2
    exact ⟨⟨⟨x, b1, b2⟩, A, c⟩, hin, rfl⟩
set_option maxRecDepth 100000 in
theorem items_open {H : Type} {enc : TypeId × Value → H} {W : World} {A : Option Addr} {len cap : Nat} {d : DataW H} {ps : List MemPlace}
    (h : DataW.Trod enc Tryd.prog W 0 (fun _ => true) true 22 (.slice A len cap) d ps) : ∃ l : List ItP, l.length = len ∧ ItIn W A l ∧ l.length ≤ 9223372036854775807 := by
  obtain ⟨fuel, hf⟩ := h
  obtain ⟨h1, h2, -, h4⟩ := acs_row Tryd.underlying22 cell_item (by decide) hf
  have hP : ∀ i, ∃ p : ItP, i < len → ∃ b off, A = some ⟨b, off, none⟩ ∧ b < W.heap.size ∧ (∀ j v, (itL p.x p.A p.c)[j]? = some v → W.cell? ⟨b, off + i * 9 + j, none⟩ = some v) ∧ MaIn W p.x.m p.A p.c := fun i => by
    by_cases hi : i < len
    · obtain ⟨b, off, e, hb, cs, n, y, hcl, hat, ht⟩ := h4 i hi
      obtain ⟨p, hin, rfl⟩ := item_cells hcl ht
      refine ⟨p, fun _ => ⟨b, off, e, hb, fun j v hv => ?_, hin⟩⟩
      have hj : j < 9 := by rw [← hcl]; exact (List.getElem?_eq_some_iff.1 hv).1
      have := hat j hj
      rw [acs_addr] at this
      rw [this]; exact hv
    · exact ⟨⟨it0, none, 0⟩, fun h => absurd h hi⟩
  obtain ⟨f, hfn⟩ := Classical.axiomOfChoice hP
  refine ⟨(List.range len).map f, by simp, ⟨fun i hi => ?_, fun p hp => ?_⟩, by simp; omega⟩
  · have hil : i < len := by simpa using hi
    obtain ⟨b, off, e, hb, hc, -⟩ := hfn i hil
    refine ⟨b, off, e, hb, fun j v hv => ?_⟩
    rw [List.getElem_map, List.getElem_range] at hv
    exact hc j v hv
  · obtain ⟨i, hi, rfl⟩ := List.mem_map.1 hp
    obtain ⟨_, _, _, _, _, h5⟩ := hfn i (List.mem_range.1 hi)
    exact h5
end Go.Proofs.YtfbajmiiecmelabDoor
end
