/-
  MESSAGES that come in, a row of them, opened.
-/
import Derived.Test.YtfbajmiiecmelaaDoorRt45
import Derived.Test.YtfbajmiiecmelaaDoorRt49

section
namespace Go.Proofs.YtfbajmiiecmelaaDoor
open Go.ChangeShapes Go.WideShapes Go.Deep Go.RowKit
set_option maxRecDepth 100000 in
theorem mails_open {H : Type} {enc : TypeId × Value → H} {W : World} {A : Option Addr} {len cap : Nat} {d : DataW H} {ps : List MemPlace}
    (h : DataW.Trod enc Tryd.prog W 0 (fun _ => true) true 22 (.slice A len cap) d ps) : ∃ l : List Mp, l.length = len ∧ MaRow W A l ∧ l.length ≤ 9223372036854775807 := by
  obtain ⟨fuel, hf⟩ := h
  obtain ⟨h1, h2, -, h4⟩ := acs_row Tryd.underlying22 cell_mail (by decide) hf
  have hP : ∀ i, ∃ p : Mp, i < len → ∃ b off, A = some ⟨b, off, none⟩ ∧ b < W.heap.size ∧ (∀ j v, (mpL p)[j]? = some v → W.cell? ⟨b, off + i * 7 + j, none⟩ = some v) ∧ MaIn W p.x p.A p.c := fun i => by
    by_cases hi : i < len
    · obtain ⟨b, off, e, hb, cs, n, y, hcl, hat, ht⟩ := h4 i hi
      obtain ⟨x, Ax, cx, hin, rfl⟩ := mail_cells hcl ht
      refine ⟨⟨x, Ax, cx⟩, fun _ => ⟨b, off, e, hb, fun j v hv => ?_, hin⟩⟩
      have hj : j < 7 := by rw [← hcl]; exact (List.getElem?_eq_some_iff.1 hv).1
      have := hat j hj
      rw [acs_addr] at this
      rw [this]; exact hv
    · exact ⟨Mp.zero, fun h => absurd h hi⟩
  obtain ⟨f, hfn⟩ := Classical.axiomOfChoice hP
  refine ⟨(List.range len).map f, by simp, ⟨⟨fun i u hu => ?_⟩, fun p hp => ?_⟩, by simp; omega⟩
  · have hil := (List.getElem?_eq_some_iff.1 hu).1
    rw [mcs_len] at hil
    have hi7 : i / 7 < ((List.range len).map f).length := by omega
    have hq : i / 7 < len := by simpa using hi7
    obtain ⟨b, off, e, hb, hc, -⟩ := hfn (i / 7) hq
    have hat := mcs_at hi7 (show i % 7 < 7 by omega)
    rw [show i / 7 * 7 + i % 7 = i by omega, hu] at hat
    have hg : ((List.range len).map f).getD (i / 7) Mp.zero = f (i / 7) := by
      rw [List.getD_eq_getElem?_getD, List.getElem?_map, List.getElem?_range hq]; rfl
    rw [hg] at hat
    have := hc (i % 7) u hat.symm
    rw [Nat.add_assoc, show i / 7 * 7 + i % 7 = i by omega] at this
    exact ⟨b, off, e, hb, this⟩
  · obtain ⟨i, hi, rfl⟩ := List.mem_map.1 hp
    obtain ⟨_, _, _, _, _, h5⟩ := hfn i (List.mem_range.1 hi)
    exact h5
/-- bytes that came in -/
structure U8s (w : World) (A : Option Addr) (l : List Nat) : Prop where
  row : Rws w A (l.map fun n : Nat => Value.int .u8 (n : Int))
  lt : ∀ n ∈ l, n < 256
theorem U8s.on {w w' : World} {A : Option Addr} {l : List Nat} (h : U8s w A l) (hb : Below w.heap.size w w') : U8s w' A l := ⟨Rws.on h.row hb, h.lt⟩
theorem U8s.get {w : World} {A : Option Addr} {l : List Nat} (h : U8s w A l) {i : Nat} (hi : i < l.length) : ∃ b off, A = some ⟨b, off, none⟩ ∧ b < w.heap.size ∧ w.cell? ⟨b, off + i, none⟩ = some (.int .u8 (l.getD i 0 : Int)) ∧ l.getD i 0 < 256 := by
  have e : l.getD i 0 = l[i] := by rw [List.getD_eq_getElem?_getD, List.getElem?_eq_getElem hi]; rfl
  obtain ⟨b, off, rfl, hb, hc⟩ := h.row.at_ i (.int .u8 (l[i] : Int)) (by rw [List.getElem?_map, List.getElem?_eq_getElem hi]; rfl)
  exact ⟨b, off, rfl, hb, by rw [e]; exact hc, by rw [e]; exact h.lt _ (List.getElem_mem hi)⟩
theorem cell_u8r : Tryd.prog.cellsOf 5 = 1 := by kernel_rfl
set_option maxRecDepth 100000 in
theorem u8s_open {H : Type} {enc : TypeId × Value → H} {W : World} {A : Option Addr} {len cap : Nat} {d : DataW H} {ps : List MemPlace}
    (h : DataW.Trod enc Tryd.prog W 0 (fun _ => true) true 23 (.slice A len cap) d ps) : ∃ l : List Nat, l.length = len ∧ U8s W A l ∧ l.length ≤ 9223372036854775807 := by
  obtain ⟨fuel, hf⟩ := h
  obtain ⟨h1, h2, -, h4⟩ := acs_row Tryd.underlying23 cell_u8r (by decide) hf
  have hP : ∀ i, ∃ p : Nat, i < len → ∃ b off, A = some ⟨b, off, none⟩ ∧ b < W.heap.size ∧ W.cell? ⟨b, off + i, none⟩ = some (.int .u8 (p : Int)) ∧ p < 256 := fun i => by
    by_cases hi : i < len
    · obtain ⟨b, off, e, hb, cs, n, y, hcl, hat, ht⟩ := h4 i hi
      match cs, hcl with
      | [v], _ =>
        obtain ⟨x0, f0, -, w0⟩ := DataW.trod_int Tryd.underlying5 ht
        simp only [List.cons.injEq, and_true] at f0
        subst f0
        obtain ⟨p, rfl, hp⟩ := nat_of_u8 w0
        refine ⟨p, fun _ => ⟨b, off, e, hb, ?_, hp⟩⟩
        have := hat 0 (by decide)
        rw [acs_addr, Nat.mul_one, Nat.add_zero] at this
        exact this
    · exact ⟨0, fun h => absurd h hi⟩
  obtain ⟨f, hfn⟩ := Classical.axiomOfChoice hP
  refine ⟨(List.range len).map f, by simp, ⟨⟨fun i u hu => ?_⟩, fun p hp => ?_⟩, by simp; omega⟩
  · have hil : i < len := by simpa using (List.getElem?_eq_some_iff.1 hu).1
    obtain ⟨b, off, e, hb, hc, -⟩ := hfn i hil
    rw [List.getElem?_map, List.getElem?_map, List.getElem?_range hil] at hu
    obtain rfl := Option.some.inj hu
    exact ⟨b, off, e, hb, hc⟩
  · obtain ⟨i, hi, rfl⟩ := List.mem_map.1 hp
    obtain ⟨_, _, _, _, _, h5⟩ := hfn i (List.mem_range.1 hi)
    exact h5
end Go.Proofs.YtfbajmiiecmelaaDoor
end
