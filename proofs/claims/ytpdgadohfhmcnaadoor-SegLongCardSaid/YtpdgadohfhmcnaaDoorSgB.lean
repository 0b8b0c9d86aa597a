/-
  A BUILDER of texts: written, read.
-/
import Derived.Test.YtpdgadohfhmcnaaDoorSgA
import Derived.Lib.FrozenHead
import Derived.Laws.Externs
import Derived.Test.YtpdgadohfhmcnaaDoorShelfWords
namespace Go.Proofs.YtpdgadohfhmcnaaDoor
open Go.ChangeShapes Go.WideShapes Go.ChangeAt Go.RowKit

theorem infoSb : (Tryd.prog.info? 47).map (fun i => i.size) = some 2 := by kernel_rfl
theorem infoB1 : (Tryd.prog.info? 5).map (fun i => (i.zero, i.size, i.bytes)) = some (some (.int .u8 0), 1, 1) := by kernel_rfl
theorem sb_there {W : World} {b : Nat} (hsh : W.shape? b = some (47, 2)) : (convert 45 75 (.pointer (some ⟨b, 0, none⟩))).run Tryd.prog W = .ok (.pointer (some ⟨b, 0, none⟩)) W := by
  obtain ⟨j, hj, hjs⟩ := Option.map_eq_some_iff.1 infoSb
  exact Lib.run_to_unsafe W ⟨b, 0, none⟩ Tryd.underlying45 Tryd.underlying75 hj (by rw [hjs]; decide) hsh (Nat.zero_lt_succ 1)
theorem sb_back {W : World} {b : Nat} (hsh : W.shape? b = some (47, 2)) : (convert 75 45 (.pointer (some ⟨b, 0, none⟩))).run Tryd.prog W = .ok (.pointer (some ⟨b, 0, none⟩)) W := by
  obtain ⟨j, hj, hjs⟩ := Option.map_eq_some_iff.1 infoSb
  exact Lib.run_from_unsafe W ⟨b, 0, none⟩ Tryd.underlying75 Tryd.underlying45 hj hsh (by kernel_rfl)
theorem sb_same (W : World) (x : Value) : (callFunc 41 #[x]).run Tryd.prog W = .ok (.value x) W := by
  rw [run_callFunc_extern Tryd.func41 (by kernel_rfl) (by kernel_rfl) (by kernel_rfl) (e := Extern.AbiNoEscape.same) (by kernel_rfl), Lib.run_noEscape]
  rfl
/-- a builder of one's own holds these bytes -/
abbrev Sb (B b : Nat) (l : List UInt8) (w : World) : Prop := Lib.IsBuilder 47 5 B b (Lib.byteCells l) w
set_option maxRecDepth 100000 in
theorem sbCopy_any (B b : Nat) (l : List UInt8) (w : World) (h : Sb B b l w) :
    Calls Tryd.prog 33 #[.pointer (some ⟨b, 0, none⟩)] w fun e w' => e = .returned (.tuple #[]) ∧ Lib.BuilderAt 47 5 B b (.pointer (some ⟨b, 0, none⟩)) (Lib.byteCells l) w' ∧ Below B w w' := by
  rcases h with h | h
  · have h1 := sb_there h.shape
    have h2 := sb_same w (.pointer (some ⟨b, 0, none⟩))
    have h3 := sb_back h.shape
    have c0 := h.cell0
    have f0 := h.frozen0
    have HU := Lib.hid (h.used (.pointer (some ⟨b, 0, none⟩)))
    have HB := Lib.hid ((Below.refl B w).setCell (p := ⟨b, 0, none⟩) h.1 (.pointer (some ⟨b, 0, none⟩)))
    clear h
    go_enter Tryd.func33, Tryd.ntmps33
    go_wp2_with fail
    go_end0
    exact ⟨rfl, HU.out, HB.out⟩
  · have c0 := h.cell0
    obtain ⟨j, hj, -⟩ := Option.map_eq_some_iff.1 infoSb
    have hq := Lib.run_neq_ptr_same (P := Tryd.prog) w ⟨b, 0, none⟩ Tryd.underlying45 hj
    have H := Lib.hid h
    clear h hj
    go_enter Tryd.func33, Tryd.ntmps33
    go_wp2_with fail
    go_end0
    exact ⟨rfl, H.out, Below.refl _ _⟩
set_option maxRecDepth 100000 in
set_option maxHeartbeats 2000000 in
theorem sbWrite_any (B b : Nat) (l s : List UInt8) (w : World) (h : Sb B b l w) (hlen : l.length + s.length ≤ 100000000) (hB : B ≤ w.heap.size) :
    Calls Tryd.prog 22 #[.pointer (some ⟨b, 0, none⟩), .string (ofL s)] w fun e w' => e = .returned (.tuple #[.int .i64 (s.length : Int), .nilIface]) ∧ Sb B b (l ++ s) w' ∧ Below B w w' := by
  obtain ⟨i0, hi, hz0, hz1, hz2⟩ := info_parts infoB1
  have HC := Lib.hid (sbCopy_any B b l w h)
  have hz : (ofL s).size = s.length := ofL_size s
  have hst : Lib.strCells (ofL s) = Lib.byteCells s := by rw [Lib.strCells_eq, toList_ofL]
  have HST := Lib.hid hst
  have HL := Lib.hid hlen
  have HBW := Lib.hid hB
  clear h hst hlen hB
  go_enter Tryd.func22, Tryd.ntmps22
  go_wp2_with fail
  refine HC.out.mono ?_
  rintro e w1 ⟨rfl, h1, hb1⟩
  obtain ⟨hBb, v, hbk, hown, hne⟩ := h1
  have HBE := Lib.hid hb1
  have c1 : w1.cell? ⟨b, 1, none⟩ = some v := by rw [Lib.cell_of_heap hbk]; rfl
  have HBK := Lib.hid hbk
  have HOW := Lib.hid hown
  have HNE := Lib.hid hne
  have HBB := Lib.hid hBb
  have hblt : b < w1.heap.size := (Array.getElem?_eq_some_iff.1 hbk).1
  clear hb1 hbk hown hne hBb
  have S3 : l.length + s.length ≤ 100000000 := HL.out
  have HLB := Lib.hid (show (Lib.byteCells l).length + (ofL s).size ≤ 100000000 by rw [Lib.byteCells_length, ofL_size]; exact S3)
  have HB1 := Lib.hid (show B ≤ w1.heap.size by have := HBW.out; have := HBE.out.size; omega)
  clear S3
  go_wp2_with (first
    | (at_builtin; refine Lib.wpList_append_own_string _ (by rfl) _ _ 43 9 (by rfl) B 5 i0 Tryd.underlying43 Tryd.underlying9 hi hz0 hz1 hz2 v (Lib.byteCells l).length (Lib.byteCells l) (by rfl) HOW.out (ofL s) (by rfl) (by have := HLB.out; unfold maxLen; omega) (by have := HLB.out; omega) HB1.out ?_; intro v' w2 hown' hgrow _; obtain ⟨ao, n', cap, rfl⟩ : ∃ ao n' cap, v' = .slice ao n' cap := (by rcases hown'.2 with ⟨hv, _⟩ | ⟨g, cap, cur, hv, _⟩; exact ⟨_, _, _, hv⟩; exact ⟨_, _, _, hv⟩); have HG := Lib.hid hgrow; have HO2 := Lib.hid hown'; have HBK2 := Lib.hid ((hgrow.block b hblt (fun e => HNE.out e.symm)).trans HBK.out); have d1 : w2.cell? ⟨b, 1, none⟩ = some v := (by rw [Lib.cell_of_heap HBK2.out]; rfl); have f1 := Lib.frozen_of_heap HBK2.out 1; have hb2 : b < w2.heap.size := (Array.getElem?_eq_some_iff.1 HBK2.out).1; clear hgrow hown'))
  have HFI := Lib.hid (Lib.BuilderAt.put (T := 47) (e := 5) HBB.out HBK2.out (bs' := Lib.byteCells (l ++ s)) (by
    have h := HO2.out
    rw [HST.out, ← Lib.byteCells_append] at h
    rw [show (Lib.byteCells (l ++ s)).length = (Lib.byteCells l).length + (ofL s).size by rw [Lib.byteCells_length, Lib.byteCells_length, ofL_size, List.length_append]]
    exact h) (by decide))
  go_ret2
  refine ⟨rfl, Or.inr HFI.out, ?_⟩
  exact ((HBE.out.grown HG.out HB1.out (fun k hk => (HOW.out.lt k hk).1)).setCell (p := ⟨b, 1, none⟩) HBB.out _)
theorem sbStr_any (B b : Nat) (l : List UInt8) (w : World) (h : Sb B b l w) (hB : B ≤ w.heap.size) :
    Calls Tryd.prog 24 #[.pointer (some ⟨b, 0, none⟩)] w fun e w' => e = .returned (.string (ofL l)) ∧ Below B w w' := by
  refine (Tryd.Builder_String_any_f B b l w (Lib.IsBuilderF.of h) hB).mono ?_
  rintro e w' ⟨rfl, _, hb⟩
  exact ⟨rfl, hb⟩
theorem sb_new (w : World) : Sb w.heap.size w.heap.size [] (w.alloc (.cells #[.pointer none, .slice none 0 0] 47)) := Lib.fresh_isBuilder 47 5 w
end Go.Proofs.YtpdgadohfhmcnaaDoor
