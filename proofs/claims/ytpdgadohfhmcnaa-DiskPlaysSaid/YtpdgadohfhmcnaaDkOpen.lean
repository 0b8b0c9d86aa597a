/-
  ACTS ON A DISK that come in, opened.
-/
import Derived.Test.YtpdgadohfhmcnaaDkL
import Derived.Test.YtpdgadohfhmcnaaRowOpen
namespace Go.Proofs.Ytpdgadohfhmcnaa
open Go.ChangeShapes Go.WideShapes Go.Deep Go.RowKit

theorem i64_bnd {n : Int} (h : (Lit.int .i64 n).wf = true) : n ≤ 9223372036854775807 := by
  have hx : -9223372036854775808 ≤ n ∧ n ≤ 9223372036854775807 := by simpa [Lit.wf, IntKind.min, IntKind.max, IntKind.signed, IntKind.bits] using h
  omega
theorem i64_low {n : Int} (h : (Lit.int .i64 n).wf = true) : -9223372036854775808 ≤ n := by
  have hx : -9223372036854775808 ≤ n ∧ n ≤ 9223372036854775807 := by simpa [Lit.wf, IntKind.min, IntKind.max, IntKind.signed, IntKind.bits] using h
  omega
theorem acts15_open {H : Type} {enc : TypeId × Value → H} {W : World} {A : Option Addr} {len cap : Nat} {d : DataW H} {ps : List MemPlace}
    (h : DataW.Trod enc Try.prog W 0 (fun _ => true) true 22 (.slice A len cap) d ps) : ∃ l : List Ac, l.length = len ∧ ARow W A l ∧ l.length ≤ 9223372036854775807 := by
  obtain ⟨fuel, hf⟩ := h
  rcases Rw.open_slice_fields Try.underlying22 Try.underlying34 (by kernel_rfl) (by kernel_rfl) hf with ⟨hcs, _⟩ | ⟨a, l, c, m, D, Pl, hcs, _, hl, hm, hmm, _, hi⟩
  · simp [Value.cells] at hcs
    obtain ⟨rfl, rfl, rfl⟩ := hcs
    exact ⟨[], rfl, ⟨fun i hi => absurd hi (by simp), fun i hi => absurd hi (by simp)⟩, by simp⟩
  · simp [Value.cells] at hcs
    obtain ⟨rfl, rfl, rfl⟩ := hcs
    have hm' : m = cap := by simpa using hmm
    subst hm'
    have hsz : ∀ i, ∃ x : Ac, i < m → (0 ≤ x.what ∧ x.what < 256 ∧ x.at_ ≤ 9223372036854775807 ∧ x.cut ≤ 9223372036854775807 ∧ -9223372036854775808 ≤ x.cut) ∧ ∃ b off, a = ⟨b, off, none⟩ ∧ b < W.heap.size ∧ W.cell? ⟨b, off + i * 4, none⟩ = some (.int .u8 x.what) ∧
        W.cell? ⟨b, off + i * 4 + 1, none⟩ = some (.int .i64 x.at_) ∧ W.cell? ⟨b, off + i * 4 + 2, none⟩ = some (.int .i64 x.cut) ∧ W.cell? ⟨b, off + i * 4 + 3, none⟩ = some (.string (ofL x.data)) := by
      intro i
      by_cases him : i < m
      · obtain ⟨ys, n, _, _, _, hfld⟩ := hi i him
        obtain ⟨v0, y0, k0, _, t0⟩ := hfld 0 _ rfl
        obtain ⟨v1, y1, k1, _, t1⟩ := hfld 1 _ rfl
        obtain ⟨v2, y2, k2, _, t2⟩ := hfld 2 _ rfl
        obtain ⟨v3, y3, k3, _, t3⟩ := hfld 3 _ rfl
        obtain ⟨x0, e0, _, w0⟩ := DataW.trod_int Try.underlying5 t0
        obtain ⟨x1, e1, _, w1⟩ := DataW.trod_int Try.underlying3 t1
        obtain ⟨x2, e2, _, w2⟩ := DataW.trod_int Try.underlying3 t2
        obtain ⟨x3, e3, _, w3⟩ := DataW.trod_string Try.underlying9 t3
        obtain ⟨kd, rfl, hkd⟩ := nat_of_u8 w0
        have n1 := i64_bnd w1
        have n2 := i64_bnd w2
        have n3 := i64_low w2
        simp only [List.cons.injEq, and_true] at e0 e1 e2 e3
        subst e0 e1 e2 e3
        obtain ⟨b, off, spot⟩ := a
        obtain ⟨ys', n', _, _, _, hfld'⟩ := hi 0 (by omega)
        obtain ⟨v', y', k', _, _⟩ := hfld' 0 _ rfl
        have hsp : spot = none := by
          have := World.cell?_spot k'
          simpa [Addr.add] using this
        subst hsp
        have hb : b < W.heap.size := by
          have := World.block_lt_of_cell? W _ k1
          simpa [Addr.add] using this
        have ea : ∀ j, (⟨b, off, none⟩ : Addr).add (i * 4 + j) = ⟨b, off + i * 4 + j, none⟩ := fun j => by
          unfold Addr.add
          split
          · rename_i h0
            have : i * 4 + j = 0 := by simpa using h0
            simp only [Addr.mk.injEq, true_and, and_true]; omega
          · simp only [Addr.mk.injEq, true_and, and_true]; omega
        have q0 := (congrArg W.cell? (ea 0)).symm.trans k0
        have q1 := (congrArg W.cell? (ea 1)).symm.trans k1
        have q2 := (congrArg W.cell? (ea 2)).symm.trans k2
        have q3 := (congrArg W.cell? (ea 3)).symm.trans k3
        exact ⟨⟨(kd : Int), x1, x2, x3.data.toList⟩, fun _ => ⟨⟨by show (0 : Int) ≤ (kd : Int); omega, by show (kd : Int) < 256; omega, n1, n2, n3⟩, b, off, rfl, hb, q0, q1, q2, by rw [ofL_toList]; exact q3⟩⟩
      · exact ⟨ac0, fun h => absurd h him⟩
    obtain ⟨f, hfn⟩ := Classical.axiomOfChoice hsz
    have eg : ∀ i, i < len → ((List.range len).map f).getD i ac0 = f i := fun i hi => by simp [List.getD_eq_getElem?_getD, hi]
    refine ⟨(List.range len).map f, by simp, ⟨fun i hi' => ?_, fun i hi' => ?_⟩, by simp; unfold maxLen at hm; omega⟩
    · have hil : i < len := by simpa using hi'
      rw [eg i hil]
      obtain ⟨_, b, off, rfl, hb, hat⟩ := hfn i (by omega)
      exact ⟨b, off, rfl, hb, hat⟩
    · have hil : i < len := by simpa using hi'
      rw [eg i hil]
      exact (hfn i (by omega)).1
end Go.Proofs.Ytpdgadohfhmcnaa
