/-
 A part of the proof.
-/
import Derived.Test.YtaikigponkjkgaaGreatDoorXq38
import Derived.Lib.FrozenHead
import Derived.Laws.Externs
import Derived.Great.BuildSlice
import Derived.Deep.RegionLawGrows
import Derived.BigFrame
import Derived.Deep.RegionHeld3
import Derived.Deep.DeepCutAuto
section
namespace Go.Proofs.YtaikigponkjkgaaGreatDoor
open Go.ChangeShapes Go.WideShapes Go.ChangeAt Go.RowKit
open Go.Lib (hid)
set_option maxRecDepth 100000
theorem infoSb : (Tryz.prog.info? 64).map (fun i => i.size) = some 2 := by kernel_rfl
theorem infoB1 : (Tryz.prog.info? 5).map (fun i => (i.zero, i.size, i.bytes)) = some (some (.int .u8 0), 1, 1) := by kernel_rfl
theorem sb_there {W : World} {b : Nat} (hsh : W.shape? b = some (64, 2)) : (convert 61 143 (.pointer (some ⟨b, 0, none⟩))).run Tryz.prog W = .ok (.pointer (some ⟨b, 0, none⟩)) W := by
 obtain ⟨j, hj, hjs⟩ := Option.map_eq_some_iff.1 infoSb
 exact Lib.run_to_unsafe W ⟨b, 0, none⟩ Tryz.underlying61 Tryz.underlying143 hj (by rw [hjs]; decide) hsh (Nat.zero_lt_succ 1)
theorem sb_back {W : World} {b : Nat} (hsh : W.shape? b = some (64, 2)) : (convert 143 61 (.pointer (some ⟨b, 0, none⟩))).run Tryz.prog W = .ok (.pointer (some ⟨b, 0, none⟩)) W := by
 obtain ⟨j, hj, hjs⟩ := Option.map_eq_some_iff.1 infoSb
 exact Lib.run_from_unsafe W ⟨b, 0, none⟩ Tryz.underlying143 Tryz.underlying61 hj hsh (by kernel_rfl)
theorem sb_same (W : World) (x : Value) : (callFunc 90 #[x]).run Tryz.prog W = .ok (.value x) W := by
 rw [run_callFunc_extern Tryz.func90 (by kernel_rfl) (by kernel_rfl) (by kernel_rfl) (e := Extern.AbiNoEscape.same) (by kernel_rfl), Lib.run_noEscape]
 rfl
abbrev Sb (B b : Nat) (l : List UInt8) (w : World) : Prop := Lib.IsBuilder 64 5 B b (Lib.byteCells l) w
theorem sbCopy_any (B b : Nat) (l : List UInt8) (w : World) (h : Sb B b l w) :
  Calls Tryz.prog 43 #[.pointer (some ⟨b, 0, none⟩)] w fun e w' => e = .returned (.tuple #[]) ∧ Lib.BuilderAt 64 5 B b (.pointer (some ⟨b, 0, none⟩)) (Lib.byteCells l) w' ∧ Below B w w' := by
 rcases h with h | h
 ·have h1 := sb_there h.shape
  have h2 := sb_same w (.pointer (some ⟨b, 0, none⟩))
  have h3 := sb_back h.shape
  have c0 := h.cell0
  have f0 := h.frozen0
  have HU := hid (h.used (.pointer (some ⟨b, 0, none⟩)))
  have HB := hid ((Below.refl B w).setCell (p := ⟨b, 0, none⟩) h.1 (.pointer (some ⟨b, 0, none⟩)))
  clear h
  go_enter Tryz.func43, Tryz.ntmps43
  go_wp2_with fail
  go_end0
  exact ⟨rfl, HU.out, HB.out⟩
 ·have c0 := h.cell0
  obtain ⟨j, hj, -⟩ := Option.map_eq_some_iff.1 infoSb
  have hq := Lib.run_neq_ptr_same (P := Tryz.prog) w ⟨b, 0, none⟩ Tryz.underlying61 hj
  have H := hid h
  clear h hj
  go_enter Tryz.func43, Tryz.ntmps43
  go_wp2_with fail
  go_end0
  exact ⟨rfl, H.out, Below.refl _ _⟩
set_option maxHeartbeats 2000000 in
theorem sbWrite_any (B b : Nat) (l s : List UInt8) (w : World) (h : Sb B b l w) (hlen : l.length + s.length ≤ 100000000) (hB : B ≤ w.heap.size) :
  Calls Tryz.prog 18 #[.pointer (some ⟨b, 0, none⟩), .string (ofL s)] w fun e w' => e = .returned (.tuple #[.int .i64 (s.length : Int), .nilIface]) ∧ Sb B b (l ++ s) w' ∧ Below B w w' := by
 obtain ⟨i0, hi, hz0, hz1, hz2⟩ := info_parts infoB1
 have HC := hid (sbCopy_any B b l w h)
 have hz : (ofL s).size = s.length := ofL_size s
 have hst : Lib.strCells (ofL s) = Lib.byteCells s := by rw [Lib.strCells_eq, toList_ofL]
 have HST := hid hst
 have HL := hid hlen
 have HBW := hid hB
 clear h hst hlen hB
 go_enter Tryz.func18, Tryz.ntmps18
 go_wp2_with fail
 refine HC.out.mono ?_
 rintro e w1 ⟨rfl, h1, hb1⟩
 obtain ⟨hBb, v, hbk, hown, hne⟩ := h1
 have HBE := hid hb1
 have c1 : w1.cell? ⟨b, 1, none⟩ = some v := by rw [Lib.cell_of_heap hbk]; rfl
 have HBK := hid hbk
 have HOW := hid hown
 have HNE := hid hne
 have HBB := hid hBb
 have hblt : b < w1.heap.size := (Array.getElem?_eq_some_iff.1 hbk).1
 clear hb1 hbk hown hne hBb
 have S3 : l.length + s.length ≤ 100000000 := HL.out
 have HLB := hid (show (Lib.byteCells l).length + (ofL s).size ≤ 100000000 by rw [Lib.byteCells_length, ofL_size]; exact S3)
 have HB1 := hid (show B ≤ w1.heap.size by have := HBW.out; have := HBE.out.size; omega)
 clear S3
 go_wp2_with (first
  | (at_builtin; refine Lib.wpList_append_own_string _ (by rfl) _ _ 62 9 (by rfl) B 5 i0 Tryz.underlying62 Tryz.underlying9 hi hz0 hz1 hz2 v (Lib.byteCells l).length (Lib.byteCells l) (by rfl) HOW.out (ofL s) (by rfl) (by have := HLB.out; unfold maxLen; omega) (by have := HLB.out; omega) HB1.out ?_; intro v' w2 hown' hgrow _; obtain ⟨ao, n', cap, rfl⟩ : ∃ ao n' cap, v' = .slice ao n' cap := (by rcases hown'.2 with ⟨hv, _⟩ | ⟨g, cap, cur, hv, _⟩; exact ⟨_, _, _, hv⟩; exact ⟨_, _, _, hv⟩); have HG := hid hgrow; have HO2 := hid hown'; have HBK2 := hid ((hgrow.block b hblt (fun e => HNE.out e.symm)).trans HBK.out); have d1 : w2.cell? ⟨b, 1, none⟩ = some v := (by rw [Lib.cell_of_heap HBK2.out]; rfl); have f1 := Lib.frozen_of_heap HBK2.out 1; have hb2 : b < w2.heap.size := (Array.getElem?_eq_some_iff.1 HBK2.out).1; clear hgrow hown'))
 have HFI := hid (Lib.BuilderAt.put (T := 64) (e := 5) HBB.out HBK2.out (bs' := Lib.byteCells (l ++ s)) (by
  have h := HO2.out
  rw [HST.out, ← Lib.byteCells_append] at h
  rw [show (Lib.byteCells (l ++ s)).length = (Lib.byteCells l).length + (ofL s).size by rw [Lib.byteCells_length, Lib.byteCells_length, ofL_size, List.length_append]]
  exact h) (by decide))
 go_ret2
 refine ⟨rfl, Or.inr HFI.out, ?_⟩
 exact ((HBE.out.grown HG.out HB1.out (fun k hk => (HOW.out.lt k hk).1)).setCell (p := ⟨b, 1, none⟩) HBB.out _)
theorem sbStr_any (B b : Nat) (l : List UInt8) (w : World) (h : Sb B b l w) (hB : B ≤ w.heap.size) :
  Calls Tryz.prog 21 #[.pointer (some ⟨b, 0, none⟩)] w fun e w' => e = .returned (.string (ofL l)) ∧ Below B w w' := by
 refine (Tryz.Builder_String_any_f B b l w (Lib.IsBuilderF.of h) hB).mono ?_
 rintro e w' ⟨rfl, _, hb⟩
 exact ⟨rfl, hb⟩
theorem sb_new (w : World) : Sb w.heap.size w.heap.size [] (w.alloc (.cells #[.pointer none, .slice none 0 0] 64)) := Lib.fresh_isBuilder 64 5 w
theorem ry_sb_on {B b : Nat} {l : List UInt8} {w w' : World} (h : Sb B b l w) (hb : Below w.heap.size w w') : Sb B b l w' := h.imp (fun h => by
 have hlt := h.lt
 obtain ⟨hB, v, hbk, hown, hne⟩ := h
 exact ⟨hB, v, (hb.block b hlt).trans hbk, Rw.own_on hown hb, hne⟩) (fun h => by
 have hlt := h.lt
 obtain ⟨hB, v, hbk, hown, hne⟩ := h
 exact ⟨hB, v, (hb.block b hlt).trans hbk, Rw.own_on hown hb, hne⟩)
theorem ostrD_any (s : List UInt8) (w : World) : Calls Tryz.prog 20 #[.agg #[.string (ofL s), .int .i64 0]] w fun e w' => e = .returned (.string (ofL s)) ∧ Below w.heap.size w w' := by
 go_enter Tryz.func20, Tryz.ntmps20
 go_wp2_with fail
 go_ret
 exact ⟨rfl, alloc1B _ _⟩
def Df (t : Nat) (m : Ml) : De := { De.of 6 t with mail := m }
theorem infoDe : (Tryz.prog.info? 52).map (fun i => (i.zero, i.size, i.bytes)) = some (some (.agg #[.int .u8 0, .int .u64 0, .string ⟨#[]⟩, .int .u8 0, .string ⟨#[]⟩, .string ⟨#[]⟩, .int .u64 0, .int .u64 0, .string ⟨#[]⟩, .string ⟨#[]⟩, .string ⟨#[]⟩, .bool false, .string ⟨#[]⟩, .slice none 0 0, .bool false, .string ⟨#[]⟩, .int .u64 0, .int .u8 0, .int .u8 0, .int .u8 0, .int .u64 0, .int .u64 0, .string ⟨#[]⟩, .string ⟨#[]⟩, .slice none 0 0, .string ⟨#[]⟩, .int .u64 0, .int .u8 0, .string ⟨#[]⟩]), 29, 344) := by kernel_rfl
theorem fill29 (x : De) (A : Option Addr) (c : Nat) (B : Option Addr) (d : Nat) : Instr.fill (fun i => some (i * 29, 29)) ((Array.range (1 * 29)).map ((Value.agg #[.int .u8 0, .int .u64 0, .string ⟨#[]⟩, .int .u8 0, .string ⟨#[]⟩, .string ⟨#[]⟩, .int .u64 0, .int .u64 0, .string ⟨#[]⟩, .string ⟨#[]⟩, .string ⟨#[]⟩, .bool false, .string ⟨#[]⟩, .slice none 0 0, .bool false, .string ⟨#[]⟩, .int .u64 0, .int .u8 0, .int .u8 0, .int .u8 0, .int .u64 0, .int .u64 0, .string ⟨#[]⟩, .string ⟨#[]⟩, .slice none 0 0, .string ⟨#[]⟩, .int .u64 0, .int .u8 0, .string ⟨#[]⟩]).cells[· % (Value.agg #[.int .u8 0, .int .u64 0, .string ⟨#[]⟩, .int .u8 0, .string ⟨#[]⟩, .string ⟨#[]⟩, .int .u64 0, .int .u64 0, .string ⟨#[]⟩, .string ⟨#[]⟩, .string ⟨#[]⟩, .bool false, .string ⟨#[]⟩, .slice none 0 0, .bool false, .string ⟨#[]⟩, .int .u64 0, .int .u8 0, .int .u8 0, .int .u8 0, .int .u64 0, .int .u64 0, .string ⟨#[]⟩, .string ⟨#[]⟩, .slice none 0 0, .string ⟨#[]⟩, .int .u64 0, .int .u8 0, .string ⟨#[]⟩]).cells.size]!)) [(0, deV x A c B d)] = some (deL x A c B d).toArray := by kernel_rfl
theorem wp_buildDe {o : Oper} {a : Act} {w : World} {K : Act → World → Prop} {Q : Exit → Act → World → Prop} (parts : Array (Nat × Operand)) (ho : o.op = .buildSlice 22 1 parts) (x : De) (A : Option Addr) (c : Nat) (B : Option Addr) (d : Nat)
  (hp : (parts.map fun (i, y) => (i, a.eval y)).toList = [(0, deV x A c B d)]) (h : K (a.put o.dst (.slice (some ⟨w.heap.size, 0, none⟩) 1 1)) (w.alloc (.cells (deL x A c B d).toArray 52))) : o.wp Tryz.prog a w K Q := by
 obtain ⟨i, hi, hz, hs, hb⟩ := info_parts infoDe
 refine wp_buildSlice 22 52 1 parts ho (deL x A c B d).toArray i _ Tryz.underlying22 hi hz (by rw [hs]; decide) (by rw [hs]; decide) ?_ h
 rw [hs, hp]
 exact fill29 x A c B d
structure Hp where
 B : Option Addr
 d : Nat
def dfL (x : De) (p : Hp) : List Value := deL x none 0 p.B p.d
structure D6 (w : World) (A : Option Addr) (x : De) (l : List Hp) : Prop where
 row : Rws w A (l.flatMap (dfL x))
 ok : ∀ p ∈ l, Prs w p.B x.mail.head ∧ x.mail.head.length ≤ p.d
theorem D6.on {w w' : World} {A : Option Addr} {x : De} {l : List Hp} (h : D6 w A x l) (hb : Below w.heap.size w w') : D6 w' A x l := ⟨Rws.on h.row hb, fun p hp => ⟨(h.ok p hp).1.on hb, (h.ok p hp).2⟩⟩
theorem D6.nil (w : World) (A : Option Addr) (x : De) : D6 w A x [] := ⟨Rws.nil w A, fun _ h => by simp at h⟩
theorem ownPrs_mono {C C' : Nat} {W : World} {A : Option Addr} {c : Nat} {l : List Hd.Pr} (h : OwnPrs C W A c l) (hc : C' ≤ C) : OwnPrs C' W A c l := World.ownsRow.mono h hc
structure Dp where
 x : De
 A : Option Addr
 c : Nat
 B : Option Addr
 d : Nat
def Dp0 : Dp := ⟨De.of 0 0, none, 0, none, 0⟩
def dpL (p : Dp) : List Value := deL p.x p.A p.c p.B p.d
structure Dps (w : World) (A : Option Addr) (l : List Dp) : Prop where
 row : Rws w A (l.flatMap dpL)
 ok : ∀ p ∈ l, DeOk w p.x p.A p.c p.B p.d
theorem Dps.on {w w' : World} {A : Option Addr} {l : List Dp} (h : Dps w A l) (hb : Below w.heap.size w w') : Dps w' A l := ⟨Rws.on h.row hb, fun p hp => (h.ok p hp).on hb⟩
theorem Dps.nil (w : World) (A : Option Addr) : Dps w A [] := ⟨Rws.nil w A, fun _ h => by simp at h⟩
theorem dp_get {l : List Dp} {i : Nat} (hi : i < l.length) : l[i] = l.getD i Dp0 := by rw [List.getD_eq_getElem?_getD, List.getElem?_eq_getElem hi]; rfl
theorem dps_elt {w : World} {A : Option Addr} {l : List Dp} (h : Dps w A l) {i : Nat} (hi : i < l.length) : ∃ b off, A = some ⟨b, off, none⟩ ∧ b < w.heap.size ∧ w.rangeAt b (off + i * 29) (dpL (l.getD i Dp0)) ∧ DeOk w (l.getD i Dp0).x (l.getD i Dp0).A (l.getD i Dp0).c (l.getD i Dp0).B (l.getD i Dp0).d := by
 obtain ⟨b, off, e, hb, hc⟩ := Rws.elt dpL 29 (fun _ => rfl) (by decide) h.row hi
 rw [dp_get hi] at hc
 refine ⟨b, off, e, hb, fun j v hj => hc j v hj, ?_⟩
 have := h.ok _ (List.getElem_mem hi)
 rw [dp_get hi] at this
 exact this
namespace De
theorem tx_le {s : List UInt8} {n : Nat} (h : s.length ≤ n) : (tx s).length ≤ n + 2 := by
 unfold tx
 rw [List.length_append, Oct.length_be]
 omega
theorem rest_le {x : De} (h : x.code = 0) : (rest x).length ≤ 2000 := by
 obtain ⟨h1, -, h3⟩ := code_zero h
 unfold body at h3
 unfold rest
 by_cases k0 : x.kd = 0
 ·rw [if_pos k0] at h3 ⊢
  obtain ⟨a, b⟩ := shc_len h3
  have := tx_le a; have := tx_le b
  simp only [List.length_append, Oct.length_be]; omega
 ·rw [if_neg k0] at h3 ⊢
  by_cases k2 : x.kd = 2
  ·rw [if_pos k2] at h3 ⊢
   obtain ⟨a, b⟩ := quc_len h3
   have := tx_le a; have := tx_le b
   simp only [List.length_append, Oct.length_be]; omega
  ·rw [if_neg k2] at h3 ⊢
   by_cases k4 : x.kd = 4 ∨ x.kd = 5
   ·rw [if_pos k4] at h3 ⊢
    obtain ⟨a, b, c, d⟩ := bdc_len h3
    have l3 : (Hd.henc x.bind.want).length ≤ 1000 := by have := (hfine_of d).pre x.bind.want.length; rw [hpre_all (Nat.le_refl _)] at this; exact this
    unfold bdE
    simp only [List.length_append, Oct.length_be, List.length_nil]; omega
   ·rw [if_neg k4] at h3 ⊢
    by_cases k1 : x.kd = 1 ∨ x.kd = 3 ∨ x.kd = 7
    ·rw [if_pos k1] at h3 ⊢
     have := tx_le (Hd.name_ok_len h3).1; omega
    ·rw [if_neg k1] at h3 ⊢
     by_cases k6 : x.kd = 6
     ·rw [if_pos k6]
      rw [if_pos (.inl k6)] at h3
      have := mail_len h3; omega
     ·rw [if_neg k6]
      by_cases k8 : x.kd = 8
      ·rw [if_pos k8]
       rw [if_neg (by omega), if_pos k8] at h3
       have := tx_le (stc_len h3)
       simp only [List.length_append, Oct.length_be]; omega
      ·rw [if_neg k8]
       by_cases k10 : x.kd = 10
       ·rw [if_pos k10]
        rw [if_pos (.inr k10)] at h3
        have := mail_len h3
        simp only [List.length_append, Oct.length_be]; omega
       ·rw [if_neg k10]
        by_cases k12 : x.kd = 12
        ·rw [if_pos k12]
         rw [if_neg (by omega), if_neg k8, if_pos k12] at h3
         have hl : x.text.length ≤ 64 := by
          by_cases g : 64 < x.text.length
          ·rw [if_pos g] at h3; omega
          ·omega
         have := tx_le hl
         simp only [List.length_append, Oct.length_be]; omega
        ·rw [if_neg k12]; exact Nat.zero_le _
theorem enc_le {x : De} (h : x.code = 0) : x.enc.length ≤ 2100 := by
 have := rest_le h
 rw [enc_rest]
 simp only [List.length_append, Oct.length_be]
 omega
theorem encs_le : ∀ {l : List De}, (∀ x ∈ l, x.code = 0) → (encs l).length ≤ l.length * 2100
 | [], _ => by simp [encs]
 | y :: l, h => by
  have h1 := enc_le (h y (List.mem_cons_self ..))
  have h2 := encs_le (l := l) fun x hx => h x (List.mem_cons_of_mem _ hx)
  have e : (encs (y :: l)).length = y.enc.length + (encs l).length := by simp [encs]
  rw [e, List.length_cons, Nat.succ_mul]
  omega
end De
def packV (l : List De) : Value := if De.packc l = 0 then .tuple #[.string (ofL (De.pack l)), .int .i64 0] else .tuple #[.string ⟨#[]⟩, .int .i64 (De.packc l : Int)]
theorem packV_many {l : List De} (h : 255 < l.length) : packV l = .tuple #[.string ⟨#[]⟩, .int .i64 6] := by
 have e : De.packc l = 6 := by unfold De.packc; rw [if_pos h]
 unfold packV
 rw [e]; rfl
theorem packV_bad {l : List De} {k : Nat} (hn : l.length ≤ 255) (hk : k < l.length) (h : ∀ x ∈ l.take k, x.code = 0) (h2 : l[k].code ≠ 0) : packV l = .tuple #[.string ⟨#[]⟩, .int .i64 (l[k].code : Int)] := by
 have e : De.packc l = l[k].code := by unfold De.packc; rw [if_neg (by omega)]; exact De.codes_at hk h h2
 unfold packV
 rw [e, if_neg h2]
theorem packV_ok {l : List De} (hn : l.length ≤ 255) (h : ∀ x ∈ l, x.code = 0) : packV l = .tuple #[.string (ofL (Oct.be 1 l.length ++ De.encs l)), .int .i64 0] := by
 have e : De.packc l = 0 := by unfold De.packc; rw [if_neg (by omega)]; exact De.codes_all h
 unfold packV
 rw [e, if_pos rfl]; rfl
def UpTo (l : List De) (k : Nat) : Prop := ∀ x ∈ l.take k, x.code = 0
theorem UpTo.zero (l : List De) : UpTo l 0 := fun x hx => by simp at hx
theorem UpTo.next {l : List De} {k : Nat} (h : UpTo l k) (hk : k < l.length) (h0 : l[k].code = 0) : UpTo l (k + 1) := fun x hx => by
 rw [List.take_succ_eq_append_getElem hk] at hx
 rcases List.mem_append.1 hx with e | e
 ·exact h x e
 ·rw [List.mem_singleton.1 e]; exact h0
theorem UpTo.all {l : List De} {k : Nat} (h : UpTo l k) (hk : l.length ≤ k) : ∀ x ∈ l, x.code = 0 := fun x hx => h x (by rw [List.take_of_length_le hk]; exact hx)
theorem UpTo.len {l : List De} {k : Nat} (h : UpTo l k) (hl : l.length ≤ 255) : (De.encs (l.take k)).length ≤ 600000 := by
 have h1 := De.encs_le (l := l.take k) h
 have h2 : (l.take k).length ≤ 255 := by rw [List.length_take]; omega
 omega
theorem dp_map {l : List Dp} {k : Nat} (hk : k < l.length) : ∃ h : k < (l.map Dp.x).length, (l.map Dp.x)[k] = (l.getD k Dp0).x := ⟨by rw [List.length_map]; exact hk, by rw [List.getElem_map, dp_get hk]⟩
set_option maxHeartbeats 16000000 in
theorem ddPack_any (l : List Dp) (A : Option Addr) (c : Nat) (w : World) (hl : l.length ≤ 100000) (hI : Dps w A l) (hf : ∀ p ∈ l, De.Fits p.x) (hL : Len w) :
  Calls Tryz.prog 8 #[.slice A l.length c] w fun e w' => e = .returned (packV (l.map Dp.x)) ∧ Below w.heap.size w w' := by
 have HI := hid hI
 have HF := hid hf
 have HLN := hid hL
 have hlm : (l.map Dp.x).length = l.length := List.length_map _
 obtain ⟨n, hn⟩ : ∃ n, n = l.length := ⟨_, rfl⟩
 rw [← hn]
 have HN := hid hn
 have hnl : n ≤ 100000 := by omega
 have hmn : (l.map Dp.x).length = n := by omega
 have HMN := hid hmn
 have HM : Hid (255 < n → packV (l.map Dp.x) = .tuple #[.string ⟨#[]⟩, .int .i64 6]) := fun h => packV_many (by omega)
 have HB : Hid (∀ k, k < n → n ≤ 255 → UpTo (l.map Dp.x) k → (l.getD k Dp0).x.code ≠ 0 → packV (l.map Dp.x) = .tuple #[.string ⟨#[]⟩, .int .i64 ((l.getD k Dp0).x.code : Int)]) := fun k hk h255 hu h0 => by
  obtain ⟨h1, h2⟩ := dp_map (l := l) (k := k) (by omega)
  have := packV_bad (l := l.map Dp.x) (k := k) (by omega) h1 hu (by rw [h2]; exact h0)
  rw [h2] at this
  exact this
 have HO : Hid (n ≤ 255 → UpTo (l.map Dp.x) n → packV (l.map Dp.x) = .tuple #[.string (ofL (Oct.be 1 n ++ De.encs (l.map Dp.x))), .int .i64 0]) := fun h255 hu => by
  have := packV_ok (l := l.map Dp.x) (by omega) (hu.all (by omega))
  rw [hmn] at this
  exact this
 have HTK : Hid (∀ k, k < n → De.encs ((l.map Dp.x).take (k + 1)) = De.encs ((l.map Dp.x).take k) ++ (l.getD k Dp0).x.enc) := fun k hk => by
  obtain ⟨h1, h2⟩ := dp_map (l := l) (k := k) (by omega)
  rw [De.codes_take h1, h2]
 have HUN : Hid (∀ k, k < n → UpTo (l.map Dp.x) k → (l.getD k Dp0).x.code = 0 → UpTo (l.map Dp.x) (k + 1)) := fun k hk hu h0 => by
  obtain ⟨h1, h2⟩ := dp_map (l := l) (k := k) (by omega)
  exact hu.next h1 (by rw [h2]; exact h0)
 have HTA : Hid ((l.map Dp.x).take n = l.map Dp.x) := List.take_of_length_le (by omega)
 generalize packV (l.map Dp.x) = PV at *
 generalize l.map Dp.x = L at *
 clear hI hf hL hn hl hlm hmn
 go_enter Tryz.func8, Tryz.ntmps8
 by_cases h255 : 255 < n
 ·have hq : (255 : Int) < (n : Int) := by omega
  have HV := HM.out h255
  go_wp2_with fail
  go_ret2
  exact ⟨by rw [HV]; rfl, Below.refl _ _⟩
 ·have hq : ¬ (255 : Int) < (n : Int) := by omega
  have hw : IntKind.u64.wrap (n : Int) = (n : Int) := by rw [show IntKind.u64.wrap (n : Int) = (n : Int) % 18446744073709551616 from rfl]; omega
  have H255 := hid h255
  have HN1 := hid (fun W => num_l [] n 1 1 W (by omega) (by omega) rfl (by simp))
  rw [show ofL ([] : List UInt8) = ⟨#[]⟩ from rfl, List.nil_append] at HN1
  have HE1 : Hid ((Oct.be 1 n).length = 1) := Oct.length_be _ _
  generalize Oct.be 1 n = E1 at *
  have HST := hid (fun W => ostrD_any E1 W)
  have HSW := hid (fun l s W h h1 h2 => sbWrite_any w.heap.size w.heap.size l s W h h1 h2)
  have HSS := hid (fun l W h h2 => sbStr_any w.heap.size w.heap.size l W h h2)
  have HS0 := hid (sb_new w)
  have HB0 := hid ((Below.refl w.heap.size w).alloc (Nat.le_refl _) (.cells #[.pointer none, .slice none 0 0] 64))
  clear h255
  go_wp2_with fail
  (try simp only [hw])
  generalize w.alloc (.cells #[.pointer none, .slice none 0 0] 64) = w1 at *
  refine (HN1.out w1).mono ?_
  rintro e w2 ⟨rfl, b2⟩
  have HB2 := hid (bthen HB0.out b2 (Nat.le_refl _))
  have HS2 := hid (ry_sb_on HS0.out b2)
  clear b2
  go_wp2_with fail
  refine (HST.out _).mono ?_
  rintro e w3 ⟨rfl, b3⟩
  have HB3 := hid (bthen HB2.out b3 (Nat.le_refl _))
  have HS3 := hid (ry_sb_on HS2.out b3)
  clear b3
  go_wp2_with fail
  refine (HSW.out _ _ _ HS3.out (by have := HE1.out; simp; omega) HB3.out.size).mono ?_
  rintro e w4 ⟨rfl, hs4, b4⟩
  rw [List.nil_append] at hs4
  have HS4 := hid hs4
  have HB4 := hid (Below.trans HB3.out b4)
  clear hs4 b4
  go_wp2_with fail
  go_loopg [21] n (fun g i wr => ∃ k : Nat, k + g = n ∧ i = .int .i64 (k : Int) ∧ UpTo L k ∧ Sb w.heap.size w.heap.size (E1 ++ De.encs (L.take k)) wr ∧ Below w.heap.size w wr)
  case atStart => exact ⟨0, by omega, rfl, UpTo.zero L, by rw [List.take_zero, show De.encs [] = [] from rfl, List.append_nil]; exact HS4.out, HB4.out⟩
  case round =>
   obtain ⟨k, hk, rfl, hu, hs, hb⟩ := hrel
   have HK := hid hk
   have HU := hid hu
   have HS := hid hs
   have HBK := hid hb
   clear hk hu hs hb
   by_cases hlt : k < n
   ·have hkl : k < l.length := by have := HN.out; omega
    obtain ⟨b, off, rfl, hbl, hat, hok⟩ := dps_elt (HI.out.on HBK.out) hkl
    have hfk : De.Fits (l.getD k Dp0).x := HF.out _ (by rw [← dp_get hkl]; exact List.getElem_mem hkl)
    have hle : (E1 ++ De.encs (L.take k)).length ≤ 700000 := by
     have h1 := HU.out.len (l := L) (by have := HMN.out; have := H255.out; omega)
     have h2 := HE1.out
     rw [List.length_append]; omega
    have HLE := hid hle
    have HBx := hid (HB.out k hlt (by have := H255.out; omega) HU.out)
    have HTKx := hid (HTK.out k hlt)
    have HUNx := hid (HUN.out k hlt HU.out)
    have HEL := hid (fun h : (l.getD k Dp0).x.code = 0 => De.enc_le h)
    generalize hpk : l.getD k Dp0 = p at hat hok hfk HBx HTKx HUNx HEL
    clear hpk hle
    obtain ⟨x, XA, xc, XB, xd⟩ := p
    dsimp only at hok hfk HBx HTKx HUNx HEL
    have HAT := hid (show wr.rangeAt b (off + k * 29) (deL x XA xc XB xd) from hat)
    have HOK := hid hok
    have HFK := hid hfk
    clear hat hok hfk
    have hki : (k : Int) < (n : Int) := by omega
    have HE5 := hid (BoxC.new (w := wr) (W := wr) (Nat.le_refl _) (deL x XA xc XB xd).toArray 52)
    have HBX5 := hid (rtOne wr (.cells (deL x XA xc XB xd).toArray 52))
    have HS5 := hid (ry_sb_on HS.out HBX5.out)
    have HB5 := hid (bthen HBK.out HBX5.out (Nat.le_refl _))
    go_upto_region 8 with (first
     | (refine wpList_load_mid (by rfl) 52 _ (by rfl) b (off + k * 29) (by rfl) (deL x XA xc XB xd) _ HAT.out Tryz.underlying52 rfl (by rw [de_size, deL_len]) ?_)
     | (refine wpList_store_new2 (by rfl) 52 _ _ (by rfl) _ (deL x XA xc XB xd).toArray (by rfl) (by rfl) (by rw [de_size]; rfl) (by rfl) (de_all _ _ _ _ _) ?_))
    have HBY := hid (ddBytes_any x XA xc XB xd (wr.alloc (.cells (deL x XA xc XB xd).toArray 52)) (HOK.out.on HBX5.out) HFK.out (HLN.out.on HB5.out))
    generalize wr.alloc (.cells (deL x XA xc XB xd).toArray 52) = W5 at *
    go_wp2_with (refine wpList_load_mid (by rfl) 52 _ (by rfl) wr.heap.size 0 (by rfl) (deL x XA xc XB xd) _ HE5.out.cs.range Tryz.underlying52 rfl (by rw [de_size, deL_len]) ?_)
    refine HBY.out.mono ?_
    rintro e w6 ⟨rfl, b6⟩
    have HB6 := hid (bthen HB5.out b6 (Nat.le_refl _))
    have HS6 := hid (ry_sb_on HS5.out b6)
    clear b6 HBY
    by_cases h0 : x.code = 0
    ·rw [show deBytesV x = .tuple #[.string (ofL x.enc), .int .i64 0] by unfold deBytesV; rw [if_pos h0]]
     have HUK := hid (HUNx.out h0)
     have HELx := hid (HEL.out h0)
     clear h0 HUNx HEL HBx
     generalize x.enc = X at *
     go_wp2_with fail
     refine (HSW.out _ _ _ HS6.out (by have := HLE.out; have := HELx.out; omega) HB6.out.size).mono ?_
     rintro e w7 ⟨rfl, hs7, b7⟩
     have HS7 := hid hs7
     have HB7 := hid (Below.trans HB6.out b7)
     clear hs7 b7
     go_wp2_with fail
     go_roundg (gk - 1)
     case rel => exact ⟨k + 1, by have := HK.out; omega, by go_num, HUK.out, by rw [HTKx.out, ← List.append_assoc]; exact HS7.out, HB7.out⟩
     case measure => have := HK.out; omega
    ·rw [show deBytesV x = .tuple #[.string ⟨#[]⟩, .int .i64 (x.code : Int)] by unfold deBytesV; rw [if_neg h0]]
     have hne : ((x.code : Int) != 0) = true := by rw [bne_iff_ne]; omega
     have HV := HBx.out h0
     clear h0 HUNx HEL HBx
     generalize x.code = X at *
     go_wp2_with fail
     go_ret2
     exact ⟨by rw [HV]; rfl, HB6.out⟩
   ·have hki : ¬ (k : Int) < (n : Int) := by omega
    have e : k = n := by have := HK.out; omega
    have HV := HO.out (by have := H255.out; omega) (e ▸ HU.out)
    have hs := HS.out
    rw [e, HTA.out] at hs
    have HSF := hid hs
    clear hs e
    go_wp2_with fail
    refine (HSS.out _ _ HSF.out HBK.out.size).mono ?_
    rintro e w7 ⟨rfl, b7⟩
    have HB7 := hid (Below.trans HBK.out b7)
    clear b7
    go_wp2_with fail
    go_ret2
    exact ⟨by rw [HV]; rfl, HB7.out⟩
structure AdW (w : World) (t : Nat) (m : Ml) (B : Option Addr) (d : Nat) (A : Option Addr) (n c g8 : Nat) (W : World) : Prop where
 e : BoxC w g8 (deL (Df t m) none 0 B d) W
 mo : BoxC w (w.heap.size + 2) [.slice A n c] W
 r : BoxC w (w.heap.size + 1) [.slice none 0 0] W
 x : BoxC w w.heap.size [.slice A n c] W
 B : Below w.heap.size w W
 gg : w.heap.size + 2 < g8
theorem AdW.on {w : World} {t : Nat} {m : Ml} {B : Option Addr} {d : Nat} {A : Option Addr} {n c g8 : Nat} {W W' : World} (h : AdW w t m B d A n c g8 W) (hb : Below W.heap.size W W') : AdW w t m B d A n c g8 W' := ⟨h.e.on hb, h.mo.on hb, h.r.on hb, h.x.on hb, bthen h.B hb (Nat.le_refl _), h.gg⟩
theorem AdW.grown {w : World} {t : Nat} {m : Ml} {B : Option Addr} {d : Nat} {A : Option Addr} {n c g8 : Nat} {W W' : World} (h : AdW w t m B d A n c g8 W) (hg : W.grownBy W' none) : AdW w t m B d A n c g8 W' := ⟨rtKept h.e hg (by simp), rtKept h.mo hg (by simp), rtKept h.r hg (by simp), rtKept h.x hg (by simp), h.B.grown hg h.B.size (fun k hk => by cases hk), h.gg⟩
def lifeN (t l : Nat) : Nat := if l = 0 ∨ 18446744073709551616 ≤ t + l then 0 else t + l
def due (T : Nat) (m : Ml) : Ml := { m with due := lifeN T m.due }
theorem ownPrs_grown {C : Nat} {w w' : World} {A : Option Addr} {c : Nat} {l : List Hd.Pr} {row : Option Nat} (h : OwnPrs C w A c l) (hg : w.grownBy w' row) (hne : ∀ a, A = some a → ∀ b, row = some b → a.block ≠ b) : OwnPrs C w' A c l :=
 World.ownsRow.kept (row := row) h hg (by
  cases A with
  | none => exact Or.inl rfl
  | some a => exact Or.inr (by simp only [Value.ownBlock]; exact fun e => hne a rfl a.block e.symm rfl))
theorem ownRow_on {w w' : World} {base : Nat} {e : TypeId} {sz n : Nat} {v : Value} {xs : List Value} (h : w.ownsRow base e sz v n xs) (hb : Below w.heap.size w w') : w'.ownsRow base e sz v n xs :=
 World.ownsRow.kept (row := none) h ⟨hb.os, hb.tape, hb.output, hb.size, fun k hk _ => hb.block k hk⟩ (by
  cases hv : v.ownBlock with
  | none => exact Or.inl rfl
  | some a => exact Or.inr (by simp))
end Go.Proofs.YtaikigponkjkgaaGreatDoor
end
