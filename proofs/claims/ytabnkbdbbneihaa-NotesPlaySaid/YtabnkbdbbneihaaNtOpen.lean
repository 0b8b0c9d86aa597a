/-
  NOTES that come in, opened.
-/
import Derived.Test.YtabnkbdbbneihaaNtB
import Derived.Test.YtabnkbdbbneihaaRowOpen
namespace Go.Proofs.Ytabnkbdbbneihaa
open Go.ChangeShapes Go.WideShapes Go.Deep

theorem nt_u64 {n : Int} (h : (Lit.int .u64 n).wf = true) : ∃ k : Nat, n = (k : Int) ∧ k < 18446744073709551616 := by
  have hx : 0 ≤ n ∧ n ≤ 18446744073709551615 := by simpa [Lit.wf, IntKind.min, IntKind.max, IntKind.signed, IntKind.bits] using h
  exact ⟨n.toNat, by omega, by omega⟩
theorem notes_open {H : Type} {enc : TypeId × Value → H} {W : World} {A : Option Addr} {len cap : Nat} {d : DataW H} {ps : List MemPlace}
    (h : DataW.Trod enc Try.prog W 0 (fun _ => true) true 22 (.slice A len cap) d ps) : ∃ l : List Nt, l.length = len ∧ Nts W A l ∧ (∀ x ∈ l, x.Fits) ∧ l.length ≤ 9223372036854775807 ∧ (A = none → cap = 0) := by
  obtain ⟨fuel, hf⟩ := h
  rcases Rw.open_slice_fields Try.underlying22 Try.underlying32 (by kernel_rfl) (by kernel_rfl) hf with ⟨hcs, _⟩ | ⟨a, l, c, m, D, Pl, hcs, _, hl, hm, hmm, _, hi⟩
  · simp [Value.cells] at hcs
    obtain ⟨rfl, rfl, rfl⟩ := hcs
    exact ⟨[], rfl, Nts.nil _ _, fun f hf => by simp at hf, by simp, fun _ => rfl⟩
  · simp [Value.cells] at hcs
    obtain ⟨rfl, rfl, rfl⟩ := hcs
    have hm' : m = cap := by simpa using hmm
    subst hm'
    have hsz : ∀ i, ∃ x : Nt, i < m → x.Fits ∧ ∃ b off, a = ⟨b, off, none⟩ ∧ b < W.heap.size ∧ ∀ t, t < 3 → W.cell? ⟨b, off + i * 3 + t, none⟩ = (ntL x)[t]? := by
      intro i
      by_cases him : i < m
      · obtain ⟨ys, n, _, _, _, hfld⟩ := hi i him
        obtain ⟨v0, y0, k0, _, t0⟩ := hfld 0 _ rfl
        obtain ⟨v1, y1, k1, _, t1⟩ := hfld 1 _ rfl
        obtain ⟨v2, y2, k2, _, t2⟩ := hfld 2 _ rfl
        obtain ⟨x0, e0, _, w0⟩ := DataW.trod_int Try.underlying23 t0
        obtain ⟨x1, e1, _, w1⟩ := DataW.trod_int Try.underlying5 t1
        obtain ⟨x2, e2, _, w2⟩ := DataW.trod_string Try.underlying9 t2
        obtain ⟨tk, rfl, htk⟩ := nt_u64 w0
        obtain ⟨kd, rfl, hkd⟩ := nat_of_u8 w1
        simp only [List.cons.injEq, and_true] at e0 e1 e2
        subst e0 e1 e2
        obtain ⟨ys', n', _, _, _, hfld'⟩ := hi 0 (by omega)
        obtain ⟨v', y', k', _, _⟩ := hfld' 0 _ rfl
        obtain ⟨b, off, spot⟩ := a
        have hsp : spot = none := by
          have := World.cell?_spot k'
          simpa [Addr.add] using this
        subst hsp
        have hb : b < W.heap.size := by
          have := World.block_lt_of_cell? W _ k1
          simpa [Addr.add] using this
        have ea : ∀ j, (⟨b, off, none⟩ : Addr).add (i * 3 + j) = ⟨b, off + i * 3 + j, none⟩ := fun j => by rw [rws_add, Nat.add_assoc]
        have q0 := (congrArg W.cell? (ea 0)).symm.trans k0
        have q1 := (congrArg W.cell? (ea 1)).symm.trans k1
        have q2 := (congrArg W.cell? (ea 2)).symm.trans k2
        have hz := ofL_size x2.data.toList
        rw [ofL_toList] at hz
        refine ⟨⟨tk, kd, x2.data.toList⟩, fun _ => ⟨⟨htk, hkd, by have := w2; unfold maxLen at this; show x2.data.toList.length ≤ _; omega⟩, b, off, rfl, hb, fun t ht => ?_⟩⟩
        have e2 : x2 = ofL x2.data.toList := (ofL_toList x2).symm
        rcases (show t = 0 ∨ t = 1 ∨ t = 2 by omega) with rfl | rfl | rfl
        · exact q0
        · exact q1
        · rw [e2] at q2
          rw [q2]
          simp [ntL, ofL_toList]
      · exact ⟨Nt.zero, fun h => absurd h him⟩
    obtain ⟨f, hfn⟩ := Classical.axiomOfChoice hsz
    refine ⟨(List.range len).map f, by simp, ⟨fun j v hv => ?_⟩, fun x hx => ?_, by simp; unfold maxLen at hm; omega, fun e => by cases e⟩
    · have hj : j < len * 3 := by
        have := (List.getElem?_eq_some_iff.1 hv).1
        rw [ncs_len] at this
        simpa using this
      obtain ⟨-, b, off, rfl, hb, hat⟩ := hfn (j / 3) (by omega)
      refine ⟨b, off, rfl, hb, ?_⟩
      have hg := Rw.flat_get ntL 3 (fun _ => rfl) (by omega) ((List.range len).map f) (j / 3) (j % 3) (by simp; omega) (Nat.mod_lt _ (by decide))
      rw [show j / 3 * 3 + j % 3 = j by omega] at hg
      have h3 := hat (j % 3) (Nat.mod_lt _ (by decide))
      rw [show off + j / 3 * 3 + j % 3 = off + j by omega] at h3
      rw [h3]
      rw [← hv]
      show _ = (ncs _)[j]?
      unfold ncs
      rw [hg]
      simp
    · obtain ⟨i, hi2, rfl⟩ := List.mem_map.1 hx
      exact (hfn i (by have := List.mem_range.1 hi2; omega)).1
set_option maxRecDepth 100000 in
theorem note_open {H : Type} {enc : TypeId × Value → H} {W : World} {base : Nat} {v : Value} {d : DataW H} {ps : List MemPlace} (hv : Value.okWide Try.prog W .any base 32 v)
    (h : DataW.Trod enc Try.prog W 0 (fun _ => true) true 32 v d ps) : ∃ x : Nt, v = .agg #[.int .u64 (x.t : Int), .int .u8 (x.k : Int), .string (ofL x.b)] ∧ x.Fits := by
  obtain ⟨v0, v1, v2, y0, y1, y2, n, rfl, -, -, h0, h1, h2⟩ := Joins.open_agg3 Try.underlying32 (by kernel_rfl) (by kernel_rfl) hv h
  obtain ⟨x0, e0, rfl, w0⟩ := DataW.trod_int Try.underlying23 h0
  obtain ⟨x1, e1, rfl, w1⟩ := DataW.trod_int Try.underlying5 h1
  obtain ⟨s, e2, rfl, w2⟩ := DataW.trod_string Try.underlying9 h2
  simp at e0 e1 e2
  subst e0 e1 e2
  obtain ⟨tk, rfl, htk⟩ := nt_u64 w0
  obtain ⟨kd, rfl, hkd⟩ := nat_of_u8 w1
  have hz := ofL_size s.data.toList
  rw [ofL_toList] at hz
  refine ⟨⟨tk, kd, s.data.toList⟩, by rw [ofL_toList], htk, hkd, ?_⟩
  unfold maxLen at w2
  show s.data.toList.length ≤ _
  omega
end Go.Proofs.Ytabnkbdbbneihaa
