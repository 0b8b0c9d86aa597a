/-
  ROWS and MESSAGES that come in, their cells.
-/
import Derived.Test.YtfbajmiiecmelaaDoorRt48
import Derived.Deep.Slices
import Derived.Deep.Fields
import Derived.ChangeSame
section
namespace Go.Proofs.YtfbajmiiecmelaaDoor
open Go.ChangeShapes Go.WideShapes Go.Deep Go.RowKit
theorem acs_addr {b off : Nat} {k j : Nat} : ((⟨b, off, none⟩ : Addr).add k).add j = ⟨b, off + k + j, none⟩ := by
  unfold Addr.add
  (repeat' split) <;> simp_all <;> omega
theorem acs_row {H : Type} {enc : TypeId × Value → H} {P : Program} {W : World} {t e : TypeId} {C : Nat} {A : Option Addr} {len cap : Nat} {fuel : Nat} {y : DataW H × List MemPlace} (ht : P.underlying t = some (.slice e)) (hC : P.cellsOf e = C) (h0 : 0 < C)
    (h : DataW.trod enc P W 0 (fun _ => true) true fuel t [.slice A len cap] = some y) :
    len ≤ cap ∧ cap ≤ 9223372036854775807 ∧ (A = none → cap = 0) ∧ ∀ i, i < len → ∃ b off, A = some ⟨b, off, none⟩ ∧ b < W.heap.size ∧ ∃ cs n y, cs.length = C ∧ (∀ j, j < C → W.cell? (((⟨b, off, none⟩ : Addr).add (i * C)).add j) = cs[j]?) ∧ DataW.trod enc P W 0 (fun _ => true) true n e cs = some y := by
  rcases open_slice ht h with ⟨hcs, _⟩ | ⟨a, l, c, m, n, D, Q, hcs, _, hl, hm, hmm, _, hi⟩
  · simp at hcs
    obtain ⟨rfl, rfl, rfl⟩ := hcs
    exact ⟨Nat.le_refl _, by omega, fun _ => rfl, fun i hi => absurd hi (by omega)⟩
  · simp at hcs
    obtain ⟨rfl, rfl, rfl⟩ := hcs
    have hm' : m = cap := by simpa using hmm
    subst hm'
    rw [hC] at hi
    refine ⟨hl, by unfold maxLen at hm; omega, (fun e => by cases e), fun i hil => ?_⟩
    obtain ⟨cs', hc, ht'⟩ := hi i (by omega)
    obtain ⟨_, hcl, hat⟩ := World.cells?_some hc
    obtain ⟨b, off, spot⟩ := a
    have hsp : spot = none := by
      obtain ⟨cs0, hc0, -⟩ := hi 0 (by omega)
      obtain ⟨_, hcl0, hat0⟩ := World.cells?_some hc0
      have h1 : W.cell? (((⟨b, off, spot⟩ : Addr).add (0 * C)).add 0) = some (cs0[0]'(by omega)) := by rw [hat0 0 h0, List.getElem?_eq_getElem (by omega)]
      have := World.cell?_spot h1
      simpa [Addr.add] using this
    subst hsp
    have h1 : W.cell? (((⟨b, off, none⟩ : Addr).add (i * C)).add 0) = some (cs'[0]'(by omega)) := by rw [hat 0 h0, List.getElem?_eq_getElem (by omega)]
    have hb : b < W.heap.size := by
      have := World.block_lt_of_cell? W _ h1
      revert this
      unfold Addr.add
      (repeat' split) <;> intro h <;> simpa using h
    exact ⟨b, off, rfl, hb, cs', n, _, hcl, hat, ht'⟩
set_option maxRecDepth 100000 in
set_option maxHeartbeats 2000000 in
set_option maxRecDepth 100000 in
theorem mail_cells {H : Type} {enc : TypeId × Value → H} {W : World} {n : Nat} {cs : List Value} {y : DataW H × List MemPlace} (hcl : cs.length = 7)
    (h : DataW.trod enc Tryd.prog W 0 (fun _ => true) true n 32 cs = some y) : ∃ (x : Ml) (A : Option Addr) (c : Nat), MaIn W x A c ∧ cs = maL x A c := by
  obtain ⟨c0, c1, c2, c3, c4, c5, c6, rfl⟩ := lstOf7 hcl
  obtain ⟨ys, n', -, -, -, hyl, hft⟩ := DataW.trod_struct Tryd.underlying32 h
  obtain ⟨y0, y1, y2, y3, y4, y5, y6, rfl⟩ := lstOf7 hyl
  have t0 : DataW.trod enc Tryd.prog W 0 (fun _ => true) true n' 26 (([c0, c1, c2, c3, c4, c5, c6].drop 0).take (Tryd.prog.cellsOf 26)) = some y0 := hft 0 _ rfl
  rw [show Tryd.prog.cellsOf 26 = 1 by kernel_rfl] at t0
  simp only [List.drop, List.take] at t0
  have t1 : DataW.trod enc Tryd.prog W 0 (fun _ => true) true n' 9 (([c0, c1, c2, c3, c4, c5, c6].drop 1).take (Tryd.prog.cellsOf 9)) = some y1 := hft 1 _ rfl
  rw [show Tryd.prog.cellsOf 9 = 1 by kernel_rfl] at t1
  simp only [List.drop, List.take] at t1
  have t2 : DataW.trod enc Tryd.prog W 0 (fun _ => true) true n' 9 (([c0, c1, c2, c3, c4, c5, c6].drop 2).take (Tryd.prog.cellsOf 9)) = some y2 := hft 2 _ rfl
  rw [show Tryd.prog.cellsOf 9 = 1 by kernel_rfl] at t2
  simp only [List.drop, List.take] at t2
  have t3 : DataW.trod enc Tryd.prog W 0 (fun _ => true) true n' 30 (([c0, c1, c2, c3, c4, c5, c6].drop 3).take (Tryd.prog.cellsOf 30)) = some y3 := hft 3 _ rfl
  rw [show Tryd.prog.cellsOf 30 = 1 by kernel_rfl] at t3
  simp only [List.drop, List.take] at t3
  have t4 : DataW.trod enc Tryd.prog W 0 (fun _ => true) true n' 9 (([c0, c1, c2, c3, c4, c5, c6].drop 4).take (Tryd.prog.cellsOf 9)) = some y4 := hft 4 _ rfl
  rw [show Tryd.prog.cellsOf 9 = 1 by kernel_rfl] at t4
  simp only [List.drop, List.take] at t4
  have t5 : DataW.trod enc Tryd.prog W 0 (fun _ => true) true n' 26 (([c0, c1, c2, c3, c4, c5, c6].drop 5).take (Tryd.prog.cellsOf 26)) = some y5 := hft 5 _ rfl
  rw [show Tryd.prog.cellsOf 26 = 1 by kernel_rfl] at t5
  simp only [List.drop, List.take] at t5
  have t6 : DataW.trod enc Tryd.prog W 0 (fun _ => true) true n' 5 (([c0, c1, c2, c3, c4, c5, c6].drop 6).take (Tryd.prog.cellsOf 5)) = some y6 := hft 6 _ rfl
  rw [show Tryd.prog.cellsOf 5 = 1 by kernel_rfl] at t6
  simp only [List.drop, List.take] at t6
  obtain ⟨x0, e0, -, w0⟩ := DataW.trod_int Tryd.underlying26 t0
  obtain ⟨x1, e1, -, w1⟩ := DataW.trod_string Tryd.underlying9 t1
  obtain ⟨x2, e2, -, w2⟩ := DataW.trod_string Tryd.underlying9 t2
  obtain ⟨A, len, cc, e3⟩ := Joins.slice_form Tryd.underlying30 t3
  obtain ⟨x4, e4, -, w4⟩ := DataW.trod_string Tryd.underlying9 t4
  obtain ⟨x5, e5, -, w5⟩ := DataW.trod_int Tryd.underlying26 t5
  obtain ⟨x6, e6, -, w6⟩ := DataW.trod_int Tryd.underlying5 t6
  simp only [List.cons.injEq, and_true] at e0 e1 e2 e3 e4 e5 e6
  subst e0 e1 e2 e3 e4 e5 e6
  obtain ⟨l, rfl, hP, hfi, hc, hb⟩ := pairs_in t3
  obtain ⟨id, rfl, hid⟩ := u64_nat w0
  obtain ⟨due, rfl, hdue⟩ := u64_nat w5
  obtain ⟨hops, rfl, hho⟩ := nat_of_u8 w6
  exact ⟨⟨id, x1.data.toList, x2.data.toList, l, x4.data.toList, due, hops⟩, A, cc, ⟨hP, hc, hb, ⟨txt_big w1, txt_big w2, txt_big w4⟩, ⟨hid, hdue, hho, hfi⟩⟩, by unfold maL; rw [ofL_toList, ofL_toList, ofL_toList]⟩
theorem cell_mail : Tryd.prog.cellsOf 32 = 7 := by kernel_rfl
end Go.Proofs.YtfbajmiiecmelaaDoor
end
