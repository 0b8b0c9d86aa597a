/-
  A BUILDER of texts: written, read. ROWS OF ONE DEED; a deed with a head of its own: walked. ROWS OF ANY DEEDS; whether a draft settles one, the program's: walked.
-/
import Derived.Test.YtaikigponkjkgaaGreatDoorDs05
import Derived.Test.YtaikigponkjkgaaGreatDoorDs17
import Derived.Test.YtaikigponkjkgaaGreatDoorDs24
import Derived.Test.YtaikigponkjkgaaGreatDoorDs26
import Derived.Test.YtaikigponkjkgaaGreatDoorDs32
import Derived.Test.YtaikigponkjkgaaGreatDoorDs33
import Derived.Lib.FrozenHead
import Derived.Laws.Externs
import Derived.Test.YtaikigponkjkgaaGreatDoorShelfWords
import Derived.Great.BuildSlice
import Derived.Deep.RegionLawGrows
section
namespace Go.Proofs.YtaikigponkjkgaaGreatDoor
open Go.ChangeShapes Go.WideShapes Go.ChangeAt Go.RowKit
theorem infoSb : (Tryz.prog.info? 64).map (fun i => i.size) = some 2 := by kernel_rfl
theorem infoB1 : (Tryz.prog.info? 5).map (fun i => (i.zero, i.size, i.bytes)) = some (some (.int .u8 0), 1, 1) := by kernel_rfl
theorem sb_there {W : World} {b : Nat} (hsh : W.shape? b = some (64, 2)) : (convert 61 143 (.pointer (some ⟨b, 0, none⟩))).run Tryz.prog W = .ok (.pointer (some ⟨b, 0, none⟩)) W := by
  obtain ⟨j, hj, hjs⟩ := Option.map_eq_some_iff.1 infoSb
  exact Lib.run_to_unsafe W ⟨b, 0, none⟩ Tryz.underlying61 Tryz.underlying143 hj (by rw [hjs]; decide) hsh (Nat.zero_lt_succ 1)
theorem sb_back {W : World} {b : Nat} (hsh : W.shape? b = some (64, 2)) : (convert 143 61 (.pointer (some ⟨b, 0, none⟩))).run Tryz.prog W = .ok (.pointer (some ⟨b, 0, none⟩)) W := by
  obtain ⟨j, hj, hjs⟩ := Option.map_eq_some_iff.1 infoSb
  exact Lib.run_from_unsafe W ⟨b, 0, none⟩ Tryz.underlying143 Tryz.underlying61 hj hsh (by kernel_rfl)
theorem sb_same (W : World) (x : Value) : (callFunc 90 #[x]).run Tryz.prog W = .ok (.value x) W := by
  rw [run_callFunc_extern Tryz.func90 (by kernel_rfl) (by kernel_rfl) (by kernel_rfl) (e := Extern.AbiNoEscape.same) (by kernel_rfl), Lib.run_noEscape]
  rfl
/-- a builder of one's own holds these bytes -/
abbrev Sb (B b : Nat) (l : List UInt8) (w : World) : Prop := Lib.IsBuilder 64 5 B b (Lib.byteCells l) w
set_option maxRecDepth 100000 in
theorem sbCopy_any (B b : Nat) (l : List UInt8) (w : World) (h : Sb B b l w) :
    Calls Tryz.prog 43 #[.pointer (some ⟨b, 0, none⟩)] w fun e w' => e = .returned (.tuple #[]) ∧ Lib.BuilderAt 64 5 B b (.pointer (some ⟨b, 0, none⟩)) (Lib.byteCells l) w' ∧ Below B w w' := by
  rcases h with h | h
  · have h1 := sb_there h.shape
    have h2 := sb_same w (.pointer (some ⟨b, 0, none⟩))
    have h3 := sb_back h.shape
    have c0 := h.cell0
    have f0 := h.frozen0
    have HU := Lib.hid (h.used (.pointer (some ⟨b, 0, none⟩)))
    have HB := Lib.hid ((Below.refl B w).setCell (p := ⟨b, 0, none⟩) h.1 (.pointer (some ⟨b, 0, none⟩)))
    clear h
    go_enter Tryz.func43, Tryz.ntmps43
    go_wp2_with fail
    go_end0
    exact ⟨rfl, HU.out, HB.out⟩
  · have c0 := h.cell0
    obtain ⟨j, hj, -⟩ := Option.map_eq_some_iff.1 infoSb
    have hq := Lib.run_neq_ptr_same (P := Tryz.prog) w ⟨b, 0, none⟩ Tryz.underlying61 hj
    have H := Lib.hid h
    clear h hj
    go_enter Tryz.func43, Tryz.ntmps43
    go_wp2_with fail
    go_end0
    exact ⟨rfl, H.out, Below.refl _ _⟩
set_option maxRecDepth 100000 in
set_option maxHeartbeats 2000000 in
theorem sbWrite_any (B b : Nat) (l s : List UInt8) (w : World) (h : Sb B b l w) (hlen : l.length + s.length ≤ 100000000) (hB : B ≤ w.heap.size) :
    Calls Tryz.prog 18 #[.pointer (some ⟨b, 0, none⟩), .string (ofL s)] w fun e w' => e = .returned (.tuple #[.int .i64 (s.length : Int), .nilIface]) ∧ Sb B b (l ++ s) w' ∧ Below B w w' := by
  obtain ⟨i0, hi, hz0, hz1, hz2⟩ := info_parts infoB1
  have HC := Lib.hid (sbCopy_any B b l w h)
  have hz : (ofL s).size = s.length := ofL_size s
  have hst : Lib.strCells (ofL s) = Lib.byteCells s := by rw [Lib.strCells_eq, toList_ofL]
  have HST := Lib.hid hst
  have HL := Lib.hid hlen
  have HBW := Lib.hid hB
  clear h hst hlen hB
  go_enter Tryz.func18, Tryz.ntmps18
  go_wp2_with fail
  refine HC.out.mono ?_
  rintro e w1 ⟨rfl, h1, hb1⟩
  obtain ⟨hBb, v, hbk, hown, hne⟩ := h1
  have HBE := Lib.hid hb1
  have c1 : w1.cell? ⟨b, 1, none⟩ = some v := by rw [Lib.cell_of_heap hbk]; rfl
  have HBK := Lib.hid hbk
  have HOW := Lib.hid hown
  have HNE := Lib.hid hne
  have HBB := Lib.hid hBb
  have hblt : b < w1.heap.size := (Array.getElem?_eq_some_iff.1 hbk).1
  clear hb1 hbk hown hne hBb
  have S3 : l.length + s.length ≤ 100000000 := HL.out
  have HLB := Lib.hid (show (Lib.byteCells l).length + (ofL s).size ≤ 100000000 by rw [Lib.byteCells_length, ofL_size]; exact S3)
  have HB1 := Lib.hid (show B ≤ w1.heap.size by have := HBW.out; have := HBE.out.size; omega)
  clear S3
  go_wp2_with (first
    | (at_builtin; refine Lib.wpList_append_own_string _ (by rfl) _ _ 62 9 (by rfl) B 5 i0 Tryz.underlying62 Tryz.underlying9 hi hz0 hz1 hz2 v (Lib.byteCells l).length (Lib.byteCells l) (by rfl) HOW.out (ofL s) (by rfl) (by have := HLB.out; unfold maxLen; omega) (by have := HLB.out; omega) HB1.out ?_; intro v' w2 hown' hgrow _; obtain ⟨ao, n', cap, rfl⟩ : ∃ ao n' cap, v' = .slice ao n' cap := (by rcases hown'.2 with ⟨hv, _⟩ | ⟨g, cap, cur, hv, _⟩; exact ⟨_, _, _, hv⟩; exact ⟨_, _, _, hv⟩); have HG := Lib.hid hgrow; have HO2 := Lib.hid hown'; have HBK2 := Lib.hid ((hgrow.block b hblt (fun e => HNE.out e.symm)).trans HBK.out); have d1 : w2.cell? ⟨b, 1, none⟩ = some v := (by rw [Lib.cell_of_heap HBK2.out]; rfl); have f1 := Lib.frozen_of_heap HBK2.out 1; have hb2 : b < w2.heap.size := (Array.getElem?_eq_some_iff.1 HBK2.out).1; clear hgrow hown'))
  have HFI := Lib.hid (Lib.BuilderAt.put (T := 64) (e := 5) HBB.out HBK2.out (bs' := Lib.byteCells (l ++ s)) (by
    have h := HO2.out
    rw [HST.out, ← Lib.byteCells_append] at h
    rw [show (Lib.byteCells (l ++ s)).length = (Lib.byteCells l).length + (ofL s).size by rw [Lib.byteCells_length, Lib.byteCells_length, ofL_size, List.length_append]]
    exact h) (by decide))
  go_ret2
  refine ⟨rfl, Or.inr HFI.out, ?_⟩
  exact ((HBE.out.grown HG.out HB1.out (fun k hk => (HOW.out.lt k hk).1)).setCell (p := ⟨b, 1, none⟩) HBB.out _)
theorem sbStr_any (B b : Nat) (l : List UInt8) (w : World) (h : Sb B b l w) (hB : B ≤ w.heap.size) :
    Calls Tryz.prog 21 #[.pointer (some ⟨b, 0, none⟩)] w fun e w' => e = .returned (.string (ofL l)) ∧ Below B w w' := by
  refine (Tryz.Builder_String_any_f B b l w (Lib.IsBuilderF.of h) hB).mono ?_
  rintro e w' ⟨rfl, _, hb⟩
  exact ⟨rfl, hb⟩
theorem sb_new (w : World) : Sb w.heap.size w.heap.size [] (w.alloc (.cells #[.pointer none, .slice none 0 0] 64)) := Lib.fresh_isBuilder 64 5 w
theorem ry_sb_on {B b : Nat} {l : List UInt8} {w w' : World} (h : Sb B b l w) (hb : Below w.heap.size w w') : Sb B b l w' := h.imp (fun h => by
  have hlt := h.lt
  obtain ⟨hB, v, hbk, hown, hne⟩ := h
  exact ⟨hB, v, (hb.block b hlt).trans hbk, Rw.own_on hown hb, hne⟩) (fun h => by
  have hlt := h.lt
  obtain ⟨hB, v, hbk, hown, hne⟩ := h
  exact ⟨hB, v, (hb.block b hlt).trans hbk, Rw.own_on hown hb, hne⟩)
theorem ostrD_any (s : List UInt8) (w : World) : Calls Tryz.prog 20 #[.agg #[.string (ofL s), .int .i64 0]] w fun e w' => e = .returned (.string (ofL s)) ∧ Below w.heap.size w w' := by
  go_enter Tryz.func20, Tryz.ntmps20
  go_wp2_with fail
  go_ret
  exact ⟨rfl, alloc1B _ _⟩
end Go.Proofs.YtaikigponkjkgaaGreatDoor
end
section
namespace Go.Proofs.YtaikigponkjkgaaGreatDoor
open Go.ChangeShapes Go.WideShapes Go.ChangeAt Go.RowKit
/-- a Put at a tick -/
def Df (t : Nat) (m : Ml) : De := { De.of 6 t with mail := m }
theorem infoDe : (Tryz.prog.info? 52).map (fun i => (i.zero, i.size, i.bytes)) = some (some (.agg #[.int .u8 0, .int .u64 0, .string ⟨#[]⟩, .int .u8 0, .string ⟨#[]⟩, .string ⟨#[]⟩, .int .u64 0, .int .u64 0, .string ⟨#[]⟩, .string ⟨#[]⟩, .string ⟨#[]⟩, .bool false, .string ⟨#[]⟩, .slice none 0 0, .bool false, .string ⟨#[]⟩, .int .u64 0, .int .u8 0, .int .u8 0, .int .u8 0, .int .u64 0, .int .u64 0, .string ⟨#[]⟩, .string ⟨#[]⟩, .slice none 0 0, .string ⟨#[]⟩, .int .u64 0, .int .u8 0, .string ⟨#[]⟩]), 29, 344) := by kernel_rfl
theorem fill29 (x : De) (A : Option Addr) (c : Nat) (B : Option Addr) (d : Nat) : Instr.fill (fun i => some (i * 29, 29)) ((Array.range (1 * 29)).map ((Value.agg #[.int .u8 0, .int .u64 0, .string ⟨#[]⟩, .int .u8 0, .string ⟨#[]⟩, .string ⟨#[]⟩, .int .u64 0, .int .u64 0, .string ⟨#[]⟩, .string ⟨#[]⟩, .string ⟨#[]⟩, .bool false, .string ⟨#[]⟩, .slice none 0 0, .bool false, .string ⟨#[]⟩, .int .u64 0, .int .u8 0, .int .u8 0, .int .u8 0, .int .u64 0, .int .u64 0, .string ⟨#[]⟩, .string ⟨#[]⟩, .slice none 0 0, .string ⟨#[]⟩, .int .u64 0, .int .u8 0, .string ⟨#[]⟩]).cells[· % (Value.agg #[.int .u8 0, .int .u64 0, .string ⟨#[]⟩, .int .u8 0, .string ⟨#[]⟩, .string ⟨#[]⟩, .int .u64 0, .int .u64 0, .string ⟨#[]⟩, .string ⟨#[]⟩, .string ⟨#[]⟩, .bool false, .string ⟨#[]⟩, .slice none 0 0, .bool false, .string ⟨#[]⟩, .int .u64 0, .int .u8 0, .int .u8 0, .int .u8 0, .int .u64 0, .int .u64 0, .string ⟨#[]⟩, .string ⟨#[]⟩, .slice none 0 0, .string ⟨#[]⟩, .int .u64 0, .int .u8 0, .string ⟨#[]⟩]).cells.size]!)) [(0, deV x A c B d)] = some (deL x A c B d).toArray := by kernel_rfl
theorem wp_buildDe {o : Oper} {a : Act} {w : World} {K : Act → World → Prop} {Q : Exit → Act → World → Prop} (parts : Array (Nat × Operand)) (ho : o.op = .buildSlice 22 1 parts) (x : De) (A : Option Addr) (c : Nat) (B : Option Addr) (d : Nat)
    (hp : (parts.map fun (i, y) => (i, a.eval y)).toList = [(0, deV x A c B d)]) (h : K (a.put o.dst (.slice (some ⟨w.heap.size, 0, none⟩) 1 1)) (w.alloc (.cells (deL x A c B d).toArray 52))) : o.wp Tryz.prog a w K Q := by
  obtain ⟨i, hi, hz, hs, hb⟩ := info_parts infoDe
  refine wp_buildSlice 22 52 1 parts ho (deL x A c B d).toArray i _ Tryz.underlying22 hi hz (by rw [hs]; decide) (by rw [hs]; decide) ?_ h
  rw [hs, hp]
  exact fill29 x A c B d
/-- where the head of an element lies -/
structure Hp where
  B : Option Addr
  d : Nat
def dfL (x : De) (p : Hp) : List Value := deL x none 0 p.B p.d
/-- as many of one deed -/
structure D6 (w : World) (A : Option Addr) (x : De) (l : List Hp) : Prop where
  row : Rws w A (l.flatMap (dfL x))
  ok : ∀ p ∈ l, Prs w p.B x.mail.head ∧ x.mail.head.length ≤ p.d
theorem D6.on {w w' : World} {A : Option Addr} {x : De} {l : List Hp} (h : D6 w A x l) (hb : Below w.heap.size w w') : D6 w' A x l := ⟨Rws.on h.row hb, fun p hp => ⟨(h.ok p hp).1.on hb, (h.ok p hp).2⟩⟩
theorem D6.nil (w : World) (A : Option Addr) (x : De) : D6 w A x [] := ⟨Rws.nil w A, fun _ h => by simp at h⟩
theorem ownPrs_mono {C C' : Nat} {W : World} {A : Option Addr} {c : Nat} {l : List Hd.Pr} (h : OwnPrs C W A c l) (hc : C' ≤ C) : OwnPrs C' W A c l := World.ownsRow.mono h hc
end Go.Proofs.YtaikigponkjkgaaGreatDoor
end
section
namespace Go.Proofs.YtaikigponkjkgaaGreatDoor
open Go.ChangeShapes Go.WideShapes Go.ChangeAt Go.RowKit
/-- a deed, and where its rows lie -/
structure Dp where
  x : De
  A : Option Addr
  c : Nat
  B : Option Addr
  d : Nat
def Dp0 : Dp := ⟨De.of 0 0, none, 0, none, 0⟩
def dpL (p : Dp) : List Value := deL p.x p.A p.c p.B p.d
structure Dps (w : World) (A : Option Addr) (l : List Dp) : Prop where
  row : Rws w A (l.flatMap dpL)
  ok : ∀ p ∈ l, DeOk w p.x p.A p.c p.B p.d
theorem Dps.on {w w' : World} {A : Option Addr} {l : List Dp} (h : Dps w A l) (hb : Below w.heap.size w w') : Dps w' A l := ⟨Rws.on h.row hb, fun p hp => (h.ok p hp).on hb⟩
theorem Dps.nil (w : World) (A : Option Addr) : Dps w A [] := ⟨Rws.nil w A, fun _ h => by simp at h⟩
theorem dp_get {l : List Dp} {i : Nat} (hi : i < l.length) : l[i] = l.getD i Dp0 := by rw [List.getD_eq_getElem?_getD, List.getElem?_eq_getElem hi]; rfl
theorem dps_len (l : List Dp) : (l.flatMap dpL).length = l.length * 29 := Rw.flat_len dpL 29 (fun _ => rfl) l
theorem dps_elt {w : World} {A : Option Addr} {l : List Dp} (h : Dps w A l) {i : Nat} (hi : i < l.length) : ∃ b off, A = some ⟨b, off, none⟩ ∧ b < w.heap.size ∧ w.rangeAt b (off + i * 29) (dpL (l.getD i Dp0)) ∧ DeOk w (l.getD i Dp0).x (l.getD i Dp0).A (l.getD i Dp0).c (l.getD i Dp0).B (l.getD i Dp0).d := by
  obtain ⟨b, off, e, hb, hc⟩ := Rws.elt dpL 29 (fun _ => rfl) (by decide) h.row hi
  rw [dp_get hi] at hc
  refine ⟨b, off, e, hb, fun j v hj => hc j v hj, ?_⟩
  have := h.ok _ (List.getElem_mem hi)
  rw [dp_get hi] at this
  exact this
end Go.Proofs.YtaikigponkjkgaaGreatDoor
end
