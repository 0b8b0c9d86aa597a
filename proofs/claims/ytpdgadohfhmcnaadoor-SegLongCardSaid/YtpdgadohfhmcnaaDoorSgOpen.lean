/-
  TEXTS that come in, opened: a row of them, no longer than it has room.
-/
import Derived.Test.YtpdgadohfhmcnaaDoorSgE
import Derived.OpenShut
import Derived.Test.YtpdgadohfhmcnaaDoorOpenBase
import Derived.SliceStrings
namespace Go.Proofs.YtpdgadohfhmcnaaDoor
open Go.ChangeShapes Go.WideShapes Go.Deep

theorem strs_openC {H : Type} {enc : TypeId × Value → H} {W : World} {A : Option Addr} {len cap : Nat} {d : DataW H} {ps : List MemPlace}
    (h : DataW.Trod enc Tryd.prog W 0 (fun _ => true) true 22 (.slice A len cap) d ps) : ∃ l : List (List UInt8), l.length = len ∧ Sts W A l ∧ l.length ≤ cap ∧ cap ≤ 9223372036854775807 := by
  obtain ⟨fuel, hf⟩ := h
  rcases open_strings Tryd.underlying22 Tryd.underlying9 (by kernel_rfl) hf with ⟨hcs, _⟩ | ⟨a, l, c, ss, hcs, _, hl, hm, hss, _, hi, hsz⟩
  · simp [Value.cells] at hcs
    obtain ⟨rfl, rfl, rfl⟩ := hcs
    exact ⟨[], rfl, ⟨fun i hi => by simp at hi⟩, by simp, by simp⟩
  · simp [Value.cells] at hcs
    obtain ⟨rfl, rfl, rfl⟩ := hcs
    have hss' : ss.length = cap := by simpa using hss
    have hlen : ((ss.take len).map (fun s : ByteArray => s.data.toList)).length = len := by rw [List.length_map, List.length_take]; omega
    refine ⟨(ss.take len).map (fun s : ByteArray => s.data.toList), hlen, ⟨fun i hi' => ?_⟩, by rw [hlen]; exact hl, by unfold maxLen at hm; omega⟩
    have hil : i < len := by rw [hlen] at hi'; exact hi'
    have k0 := hi 0 (by omega)
    have ki := hi i (by omega)
    obtain ⟨b, off, spot⟩ := a
    have hsp : spot = none := by
      have := World.cell?_spot k0
      simpa [Addr.add] using this
    subst hsp
    have hb : b < W.heap.size := by
      have := World.block_lt_of_cell? W _ ki
      unfold Addr.add at this
      split at this <;> simpa using this
    have ea : (⟨b, off, none⟩ : Addr).add i = ⟨b, off + i, none⟩ := by
      unfold Addr.add
      split
      · rename_i h0
        have : i = 0 := by simpa using h0
        rw [this]; rfl
      · rfl
    rw [ea] at ki
    refine ⟨b, off, rfl, hb, ki.trans ?_⟩
    have e : ((ss.take len).map (fun s : ByteArray => s.data.toList)).getD i [] = (ss.getD i ByteArray.empty).data.toList := by
      rw [List.getD_eq_getElem?_getD, List.getElem?_map, List.getElem?_take, if_pos hil, List.getD_eq_getElem?_getD, List.getElem?_eq_getElem (by omega)]
      rfl
    rw [e, ofL_toList]
end Go.Proofs.YtpdgadohfhmcnaaDoor
