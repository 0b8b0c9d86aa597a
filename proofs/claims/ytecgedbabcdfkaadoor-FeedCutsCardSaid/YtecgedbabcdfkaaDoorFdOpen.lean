/-
  FRAMES that come in, opened.
-/
import Derived.Test.YtecgedbabcdfkaaDoorFdA
import Derived.Test.YtecgedbabcdfkaaDoorRowOpen
namespace Go.Proofs.YtecgedbabcdfkaaDoor
open Go.ChangeShapes Go.WideShapes Go.Deep

theorem frames_open {H : Type} {enc : TypeId × Value → H} {W : World} {A : Option Addr} {len cap : Nat} {d : DataW H} {ps : List MemPlace}
    (h : DataW.Trod enc Tryd.prog W 0 (fun _ => true) true 46 (.slice A len cap) d ps) : ∃ l : List Fr.Frame, l.length = len ∧ Frms W A l ∧ (∀ f ∈ l, f.b.length ≤ 9223372036854775807) ∧ l.length ≤ 9223372036854775807 := by
  obtain ⟨fuel, hf⟩ := h
  rcases Rw.open_slice_fields Tryd.underlying46 Tryd.underlying23 (by kernel_rfl) (by kernel_rfl) hf with ⟨hcs, _⟩ | ⟨a, l, c, m, D, Pl, hcs, _, hl, hm, hmm, _, hi⟩
  · simp [Value.cells] at hcs
    obtain ⟨rfl, rfl, rfl⟩ := hcs
    exact ⟨[], rfl, Frms.nil _ _, fun f hf => by simp at hf, by simp⟩
  · simp [Value.cells] at hcs
    obtain ⟨rfl, rfl, rfl⟩ := hcs
    have hm' : m = cap := by simpa using hmm
    subst hm'
    have hsz : ∀ i, ∃ x : Fr.Frame, i < m → x.b.length ≤ 9223372036854775807 ∧ ∃ b off, a = ⟨b, off, none⟩ ∧ b < W.heap.size ∧ FrmC W b (off + i * 3) x := by
      intro i
      by_cases him : i < m
      · obtain ⟨ys, n, _, _, _, hfld⟩ := hi i him
        obtain ⟨v0, y0, k0, _, t0⟩ := hfld 0 _ rfl
        obtain ⟨v1, y1, k1, _, t1⟩ := hfld 1 _ rfl
        obtain ⟨v2, y2, k2, _, t2⟩ := hfld 2 _ rfl
        obtain ⟨x0, e0, _, w0⟩ := DataW.trod_int Tryd.underlying5 t0
        obtain ⟨x1, e1, _, w1⟩ := DataW.trod_int Tryd.underlying5 t1
        obtain ⟨x2, e2, _, w2⟩ := DataW.trod_string Tryd.underlying9 t2
        obtain ⟨kd, rfl⟩ := byte_of_u8 w0
        obtain ⟨nm, rfl⟩ := byte_of_u8 w1
        simp only [List.cons.injEq, and_true] at e0 e1 e2
        subst e0 e1 e2
        obtain ⟨ys', n', _, _, _, hfld'⟩ := hi 0 (by omega)
        obtain ⟨v', y', k', _, _⟩ := hfld' 0 _ rfl
        obtain ⟨b, off, spot⟩ := a
        have hsp : spot = none := by
          have := World.cell?_spot k'
          simpa [Addr.add] using this
        subst hsp
        have hb : b < W.heap.size := by
          have := World.block_lt_of_cell? W _ k1
          simpa [Addr.add] using this
        have ea : ∀ j, (⟨b, off, none⟩ : Addr).add (i * 3 + j) = ⟨b, off + i * 3 + j, none⟩ := fun j => by
          unfold Addr.add
          split
          · rename_i h0
            have : i * 3 + j = 0 := by simpa using h0
            simp only [Addr.mk.injEq, true_and, and_true]; omega
          · simp only [Addr.mk.injEq, true_and, and_true]; omega
        have q0 := (congrArg W.cell? (ea 0)).symm.trans k0
        have q1 := (congrArg W.cell? (ea 1)).symm.trans k1
        have q2 := (congrArg W.cell? (ea 2)).symm.trans k2
        have hz := ofL_size x2.data.toList
        rw [ofL_toList] at hz
        exact ⟨⟨kd, nm, x2.data.toList⟩, fun _ => ⟨by have := w2; unfold maxLen at this; show x2.data.toList.length ≤ _; omega, b, off, rfl, hb, ⟨q0, q1, by rw [ofL_toList]; exact q2⟩⟩⟩
      · exact ⟨⟨0, 0, []⟩, fun h => absurd h him⟩
    obtain ⟨f, hfn⟩ := Classical.axiomOfChoice hsz
    refine ⟨(List.range len).map f, by simp, ⟨fun i hi' => ?_⟩, fun x hx => ?_, by simp; unfold maxLen at hm; omega⟩
    · have hil : i < len := by simpa using hi'
      have eg : frm ((List.range len).map f) i = f i := by unfold frm; simp [List.getD_eq_getElem?_getD, hil]
      rw [eg]
      obtain ⟨hfit, b, off, rfl, hb, hat⟩ := hfn i (by omega)
      exact ⟨b, off, rfl, hb, hat⟩
    · obtain ⟨i, hi2, rfl⟩ := List.mem_map.1 hx
      exact (hfn i (by have := List.mem_range.1 hi2; omega)).1
end Go.Proofs.YtecgedbabcdfkaaDoor
