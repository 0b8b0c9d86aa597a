/-
  THE LAW ReplyFrames, walked: the frame of any reply, or why it may not be; read again it is that. A BUILDER of texts: written, read.
-/
import Derived.Test.YtnjlhafhgfpfiaaGreatDoorRb18
import Derived.Test.YtnjlhafhgfpfiaaGreatDoorRb23
import Derived.Test.YtnjlhafhgfpfiaaGreatDoorRb29
import Derived.Test.YtnjlhafhgfpfiaaGreatDoorRb40
import Derived.Test.YtnjlhafhgfpfiaaGreatDoorRb43
import Derived.Deep.RegionHeld3
import Derived.Deep.DeepCutAuto
import Derived.Lib.FrozenHead
import Derived.Laws.Externs
import Derived.Test.YtnjlhafhgfpfiaaGreatDoorShelfSb
section
namespace Go.Proofs.YtnjlhafhgfpfiaaGreatDoor
open Go.ChangeShapes Go.WideShapes Go.ChangeAt Go.RowKit
attribute [local go_sem ↓] rfrm_eql
attribute [local go_sem] guardRF
theorem down_up {k : UInt8} (h : k.toNat ≤ 7) : Re.down (Re.up k) = k ∧ (Re.up k).toNat = 64 + k.toNat := by
  have h1 : (Re.up k).toNat = 64 + k.toNat := by unfold Re.up; rw [UInt8.toNat_add]; show (64 + k.toNat) % 256 = _; omega
  refine ⟨?_, h1⟩
  apply UInt8.toNat_inj.1
  unfold Re.down
  rw [UInt8.toNat_sub_of_le, h1]
  · show 64 + k.toNat - 64 = _; omega
  · rw [UInt8.le_iff_toNat_le, h1]; show 64 ≤ _; omega
/-- a reply that may be, framed, is read as it was -/
theorem re_back {x : Re} (hf : Re.Fits x) (h : x.code = 0) : Re.rcode x.ch (Re.up x.kd) x.enc = 0 ∧ Re.got x.ch (Re.up x.kd) x.enc = x := by
  obtain ⟨h7, -, -⟩ := Re.code_ok h
  obtain ⟨hd, hu⟩ := down_up h7
  have hr := Re.rd_enc hf h
  have h1 : Re.rcode x.ch (Re.up x.kd) x.enc = 0 := by
    unfold Re.rcode
    rw [if_neg (by omega)]
    unfold Re.tail
    rw [hd, hr]
    show (if lEnd ([], 0) ≠ 0 then lEnd ([], 0) else (x.code : Int)) = 0
    rw [if_neg (by decide), h]
    rfl
  refine ⟨h1, ?_⟩
  unfold Re.got
  rw [if_pos h1, hd, hr]
/-- the law's box, its reply's row -/
structure ReFx (w : World) (x : Re) (A : Option Addr) (c : Nat) (W : World) : Prop where
  p : BoxC w w.heap.size (reL x A c) W
  ra : Prs W A x.head
  B : Below w.heap.size w W
theorem ReFx.on {w : World} {x : Re} {A : Option Addr} {c : Nat} {W W' : World} (h : ReFx w x A c W) (hb : Below W.heap.size W W') : ReFx w x A c W' := ⟨h.p.on hb, h.ra.on hb, bthen h.B hb (Nat.le_refl _)⟩
theorem ReFx.start (w : World) (x : Re) (A : Option Addr) (c : Nat) (hA : Prs w A x.head) : ReFx w x A c (w.alloc (.cells #[.int .u8 (x.ch.toNat : Int), .int .u8 (x.kd.toNat : Int), .int .u64 (x.n : Int), .int .u64 (x.m : Int), .bool x.yes, .string (ofL x.name), .int .u64 (x.id : Int), .string (ofL x.shop), .string (ofL x.key), .slice A x.head.length c, .string (ofL x.body), .int .u64 (x.due : Int), .int .u8 (x.hops : Int)] 30)) := by
  have hb : Below w.heap.size w (w.alloc (.cells #[.int .u8 (x.ch.toNat : Int), .int .u8 (x.kd.toNat : Int), .int .u64 (x.n : Int), .int .u64 (x.m : Int), .bool x.yes, .string (ofL x.name), .int .u64 (x.id : Int), .string (ofL x.shop), .string (ofL x.key), .slice A x.head.length c, .string (ofL x.body), .int .u64 (x.due : Int), .int .u8 (x.hops : Int)] 30)) := (Below.refl _ _).alloc (Nat.le_refl _) _
  exact ⟨BoxC.new (Nat.le_refl _) #[.int .u8 (x.ch.toNat : Int), .int .u8 (x.kd.toNat : Int), .int .u64 (x.n : Int), .int .u64 (x.m : Int), .bool x.yes, .string (ofL x.name), .int .u64 (x.id : Int), .string (ofL x.shop), .string (ofL x.key), .slice A x.head.length c, .string (ofL x.body), .int .u64 (x.due : Int), .int .u8 (x.hops : Int)] 30, hA.on hb, hb⟩
/-- with its frame's box -/
structure ReFy (w : World) (x : Re) (A : Option Addr) (c g : Nat) (fs : List Value) (W : World) : Prop where
  m : ReFx w x A c W
  f : BoxC w g fs W
theorem ReFy.on {w : World} {x : Re} {A : Option Addr} {c g : Nat} {fs : List Value} {W W' : World} (h : ReFy w x A c g fs W) (hb : Below W.heap.size W W') : ReFy w x A c g fs W' := ⟨h.m.on hb, h.f.on hb⟩
theorem ReFx.more {w : World} {x : Re} {A : Option Addr} {c : Nat} {W : World} (h : ReFx w x A c W) (v0 v1 v2 : Value) : ReFy w x A c W.heap.size [v0, v1, v2] (W.alloc (.cells #[v0, v1, v2] 50)) :=
  ⟨h.on ((Below.refl _ _).alloc (Nat.le_refl _) _), BoxC.new h.B.size #[v0, v1, v2] 50⟩
/-- with the reply's that is read again -/
structure ReFz (w : World) (x : Re) (A : Option Addr) (c g : Nat) (fs : List Value) (A2 : Option Addr) (c2 g2 : Nat) (W : World) : Prop where
  y : ReFy w x A c g fs W
  q : BoxC w g2 (reL x A2 c2) W
  rb : Prs W A2 x.head
theorem ReFz.on {w : World} {x : Re} {A : Option Addr} {c g : Nat} {fs : List Value} {A2 : Option Addr} {c2 g2 : Nat} {W W' : World} (h : ReFz w x A c g fs A2 c2 g2 W) (hb : Below W.heap.size W W') : ReFz w x A c g fs A2 c2 g2 W' := ⟨h.y.on hb, h.q.on hb, h.rb.on hb⟩
theorem ReFy.more {w : World} {x : Re} {A : Option Addr} {c g : Nat} {fs : List Value} {W : World} (h : ReFy w x A c g fs W) (A2 : Option Addr) (c2 : Nat) (h2 : Prs W A2 x.head) : ReFz w x A c g fs A2 c2 W.heap.size (W.alloc (.cells #[.int .u8 (x.ch.toNat : Int), .int .u8 (x.kd.toNat : Int), .int .u64 (x.n : Int), .int .u64 (x.m : Int), .bool x.yes, .string (ofL x.name), .int .u64 (x.id : Int), .string (ofL x.shop), .string (ofL x.key), .slice A2 x.head.length c2, .string (ofL x.body), .int .u64 (x.due : Int), .int .u8 (x.hops : Int)] 30)) :=
  ⟨h.on ((Below.refl _ _).alloc (Nat.le_refl _) _), BoxC.new h.m.B.size #[.int .u8 (x.ch.toNat : Int), .int .u8 (x.kd.toNat : Int), .int .u64 (x.n : Int), .int .u64 (x.m : Int), .bool x.yes, .string (ofL x.name), .int .u64 (x.id : Int), .string (ofL x.shop), .string (ofL x.key), .slice A2 x.head.length c2, .string (ofL x.body), .int .u64 (x.due : Int), .int .u8 (x.hops : Int)] 30, h2.on ((Below.refl _ _).alloc (Nat.le_refl _) _)⟩
abbrev ReFzS (w : World) (x : Re) (A : Option Addr) (c g : Nat) (A2 : Option Addr) (c2 g2 : Nat) (W : World) : Prop :=
  ((W.cell? ⟨w.heap.size, 0, none⟩ = some (.int .u8 (x.ch.toNat : Int)) ∧ W.cell? ⟨w.heap.size, 1, none⟩ = some (.int .u8 (x.kd.toNat : Int)) ∧ W.cell? ⟨w.heap.size, 2, none⟩ = some (.int .u64 (x.n : Int)) ∧ W.cell? ⟨w.heap.size, 3, none⟩ = some (.int .u64 (x.m : Int)) ∧ W.cell? ⟨w.heap.size, 4, none⟩ = some (.bool x.yes) ∧ W.cell? ⟨w.heap.size, 5, none⟩ = some (.string (ofL x.name)) ∧ W.cell? ⟨w.heap.size, 6, none⟩ = some (.int .u64 (x.id : Int)) ∧ W.cell? ⟨w.heap.size, 7, none⟩ = some (.string (ofL x.shop)) ∧ W.cell? ⟨w.heap.size, 8, none⟩ = some (.string (ofL x.key)) ∧ W.cell? ⟨w.heap.size, 9, none⟩ = some (.slice A x.head.length c) ∧ W.cell? ⟨w.heap.size, 10, none⟩ = some (.string (ofL x.body)) ∧ W.cell? ⟨w.heap.size, 11, none⟩ = some (.int .u64 (x.due : Int)) ∧ W.cell? ⟨w.heap.size, 12, none⟩ = some (.int .u8 (x.hops : Int))) ∧ w.heap.size < W.heap.size ∧ (W.cell? ⟨g, 0, none⟩ = some (.int .u8 (x.ch.toNat : Int)) ∧ W.cell? ⟨g, 1, none⟩ = some (.int .u8 ((Re.up x.kd).toNat : Int)) ∧ W.cell? ⟨g, 2, none⟩ = some (.string (ofL x.enc))) ∧ g < W.heap.size ∧ (W.cell? ⟨g2, 0, none⟩ = some (.int .u8 (x.ch.toNat : Int)) ∧ W.cell? ⟨g2, 1, none⟩ = some (.int .u8 (x.kd.toNat : Int)) ∧ W.cell? ⟨g2, 2, none⟩ = some (.int .u64 (x.n : Int)) ∧ W.cell? ⟨g2, 3, none⟩ = some (.int .u64 (x.m : Int)) ∧ W.cell? ⟨g2, 4, none⟩ = some (.bool x.yes) ∧ W.cell? ⟨g2, 5, none⟩ = some (.string (ofL x.name)) ∧ W.cell? ⟨g2, 6, none⟩ = some (.int .u64 (x.id : Int)) ∧ W.cell? ⟨g2, 7, none⟩ = some (.string (ofL x.shop)) ∧ W.cell? ⟨g2, 8, none⟩ = some (.string (ofL x.key)) ∧ W.cell? ⟨g2, 9, none⟩ = some (.slice A2 x.head.length c2) ∧ W.cell? ⟨g2, 10, none⟩ = some (.string (ofL x.body)) ∧ W.cell? ⟨g2, 11, none⟩ = some (.int .u64 (x.due : Int)) ∧ W.cell? ⟨g2, 12, none⟩ = some (.int .u8 (x.hops : Int))) ∧ g2 < W.heap.size) ∧ ReFz w x A c g [.int .u8 (x.ch.toNat : Int), .int .u8 ((Re.up x.kd).toNat : Int), .string (ofL x.enc)] A2 c2 g2 W
theorem ReFz.s {w : World} {x : Re} {A : Option Addr} {c g : Nat} {A2 : Option Addr} {c2 g2 : Nat} {W : World} (h : ReFz w x A c g [.int .u8 (x.ch.toNat : Int), .int .u8 ((Re.up x.kd).toNat : Int), .string (ofL x.enc)] A2 c2 g2 W) : ReFzS w x A c g A2 c2 g2 W :=
  ⟨⟨⟨h.y.m.p.cs 0 _ rfl, h.y.m.p.cs 1 _ rfl, h.y.m.p.cs 2 _ rfl, h.y.m.p.cs 3 _ rfl, h.y.m.p.cs 4 _ rfl, h.y.m.p.cs 5 _ rfl, h.y.m.p.cs 6 _ rfl, h.y.m.p.cs 7 _ rfl, h.y.m.p.cs 8 _ rfl, h.y.m.p.cs 9 _ rfl, h.y.m.p.cs 10 _ rfl, h.y.m.p.cs 11 _ rfl, h.y.m.p.cs 12 _ rfl⟩, h.y.m.p.lt, ⟨h.y.f.cs 0 _ rfl, h.y.f.cs 1 _ rfl, h.y.f.cs 2 _ rfl⟩, h.y.f.lt, ⟨h.q.cs 0 _ rfl, h.q.cs 1 _ rfl, h.q.cs 2 _ rfl, h.q.cs 3 _ rfl, h.q.cs 4 _ rfl, h.q.cs 5 _ rfl, h.q.cs 6 _ rfl, h.q.cs 7 _ rfl, h.q.cs 8 _ rfl, h.q.cs 9 _ rfl, h.q.cs 10 _ rfl, h.q.cs 11 _ rfl, h.q.cs 12 _ rfl⟩, h.q.lt⟩, h⟩
theorem ReFzS.on {w : World} {x : Re} {A : Option Addr} {c g : Nat} {A2 : Option Addr} {c2 g2 : Nat} {W W' : World} (h : ReFzS w x A c g A2 c2 g2 W) (hb : Below W.heap.size W W') : ReFzS w x A c g A2 c2 g2 W' := (h.2.on hb).s
end Go.Proofs.YtnjlhafhgfpfiaaGreatDoor
end
section
namespace Go.Proofs.YtnjlhafhgfpfiaaGreatDoor
open Go.ChangeShapes Go.WideShapes Go.ChangeAt Go.RowKit
theorem infoSb : (Tryz.prog.info? 63).map (fun i => i.size) = some 2 := by kernel_rfl
theorem infoB1 : (Tryz.prog.info? 5).map (fun i => (i.zero, i.size, i.bytes)) = some (some (.int .u8 0), 1, 1) := by kernel_rfl
theorem sb_there {W : World} {b : Nat} (hsh : W.shape? b = some (63, 2)) : (convert 60 115 (.pointer (some ⟨b, 0, none⟩))).run Tryz.prog W = .ok (.pointer (some ⟨b, 0, none⟩)) W := by
  obtain ⟨j, hj, hjs⟩ := Option.map_eq_some_iff.1 infoSb
  exact Lib.run_to_unsafe W ⟨b, 0, none⟩ Tryz.underlying60 Tryz.underlying115 hj (by rw [hjs]; decide) hsh (Nat.zero_lt_succ 1)
theorem sb_back {W : World} {b : Nat} (hsh : W.shape? b = some (63, 2)) : (convert 115 60 (.pointer (some ⟨b, 0, none⟩))).run Tryz.prog W = .ok (.pointer (some ⟨b, 0, none⟩)) W := by
  obtain ⟨j, hj, hjs⟩ := Option.map_eq_some_iff.1 infoSb
  exact Lib.run_from_unsafe W ⟨b, 0, none⟩ Tryz.underlying115 Tryz.underlying60 hj hsh (by kernel_rfl)
theorem sb_same (W : World) (x : Value) : (callFunc 70 #[x]).run Tryz.prog W = .ok (.value x) W := by
  rw [run_callFunc_extern Tryz.func70 (by kernel_rfl) (by kernel_rfl) (by kernel_rfl) (e := Extern.AbiNoEscape.same) (by kernel_rfl), Lib.run_noEscape]
  rfl
/-- a builder of one's own holds these bytes -/
abbrev Sb (B b : Nat) (l : List UInt8) (w : World) : Prop := Lib.IsBuilder 63 5 B b (Lib.byteCells l) w
set_option maxRecDepth 100000 in
theorem sbCopy_any (B b : Nat) (l : List UInt8) (w : World) (h : Sb B b l w) :
    Calls Tryz.prog 47 #[.pointer (some ⟨b, 0, none⟩)] w fun e w' => e = .returned (.tuple #[]) ∧ Lib.BuilderAt 63 5 B b (.pointer (some ⟨b, 0, none⟩)) (Lib.byteCells l) w' ∧ Below B w w' := by
  rcases h with h | h
  · have h1 := sb_there h.shape
    have h2 := sb_same w (.pointer (some ⟨b, 0, none⟩))
    have h3 := sb_back h.shape
    have c0 := h.cell0
    have f0 := h.frozen0
    have HU := Lib.hid (h.used (.pointer (some ⟨b, 0, none⟩)))
    have HB := Lib.hid ((Below.refl B w).setCell (p := ⟨b, 0, none⟩) h.1 (.pointer (some ⟨b, 0, none⟩)))
    clear h
    go_enter Tryz.func47, Tryz.ntmps47
    go_wp2_with fail
    go_end0
    exact ⟨rfl, HU.out, HB.out⟩
  · have c0 := h.cell0
    obtain ⟨j, hj, -⟩ := Option.map_eq_some_iff.1 infoSb
    have hq := Lib.run_neq_ptr_same (P := Tryz.prog) w ⟨b, 0, none⟩ Tryz.underlying60 hj
    have H := Lib.hid h
    clear h hj
    go_enter Tryz.func47, Tryz.ntmps47
    go_wp2_with fail
    go_end0
    exact ⟨rfl, H.out, Below.refl _ _⟩
set_option maxRecDepth 100000 in
set_option maxHeartbeats 2000000 in
theorem sbWrite_any (B b : Nat) (l s : List UInt8) (w : World) (h : Sb B b l w) (hlen : l.length + s.length ≤ 100000000) (hB : B ≤ w.heap.size) :
    Calls Tryz.prog 26 #[.pointer (some ⟨b, 0, none⟩), .string (ofL s)] w fun e w' => e = .returned (.tuple #[.int .i64 (s.length : Int), .nilIface]) ∧ Sb B b (l ++ s) w' ∧ Below B w w' := by
  obtain ⟨i0, hi, hz0, hz1, hz2⟩ := info_parts infoB1
  have HC := Lib.hid (sbCopy_any B b l w h)
  have hz : (ofL s).size = s.length := ofL_size s
  have hst : Lib.strCells (ofL s) = Lib.byteCells s := by rw [Lib.strCells_eq, toList_ofL]
  have HST := Lib.hid hst
  have HL := Lib.hid hlen
  have HBW := Lib.hid hB
  clear h hst hlen hB
  go_enter Tryz.func26, Tryz.ntmps26
  go_wp2_with fail
  refine HC.out.mono ?_
  rintro e w1 ⟨rfl, h1, hb1⟩
  obtain ⟨hBb, v, hbk, hown, hne⟩ := h1
  have HBE := Lib.hid hb1
  have c1 : w1.cell? ⟨b, 1, none⟩ = some v := by rw [Lib.cell_of_heap hbk]; rfl
  have HBK := Lib.hid hbk
  have HOW := Lib.hid hown
  have HNE := Lib.hid hne
  have HBB := Lib.hid hBb
  have hblt : b < w1.heap.size := (Array.getElem?_eq_some_iff.1 hbk).1
  clear hb1 hbk hown hne hBb
  have S3 : l.length + s.length ≤ 100000000 := HL.out
  have HLB := Lib.hid (show (Lib.byteCells l).length + (ofL s).size ≤ 100000000 by rw [Lib.byteCells_length, ofL_size]; exact S3)
  have HB1 := Lib.hid (show B ≤ w1.heap.size by have := HBW.out; have := HBE.out.size; omega)
  clear S3
  go_wp2_with (first
    | (at_builtin; refine Lib.wpList_append_own_string _ (by rfl) _ _ 61 9 (by rfl) B 5 i0 Tryz.underlying61 Tryz.underlying9 hi hz0 hz1 hz2 v (Lib.byteCells l).length (Lib.byteCells l) (by rfl) HOW.out (ofL s) (by rfl) (by have := HLB.out; unfold maxLen; omega) (by have := HLB.out; omega) HB1.out ?_; intro v' w2 hown' hgrow _; obtain ⟨ao, n', cap, rfl⟩ : ∃ ao n' cap, v' = .slice ao n' cap := (by rcases hown'.2 with ⟨hv, _⟩ | ⟨g, cap, cur, hv, _⟩; exact ⟨_, _, _, hv⟩; exact ⟨_, _, _, hv⟩); have HG := Lib.hid hgrow; have HO2 := Lib.hid hown'; have HBK2 := Lib.hid ((hgrow.block b hblt (fun e => HNE.out e.symm)).trans HBK.out); have d1 : w2.cell? ⟨b, 1, none⟩ = some v := (by rw [Lib.cell_of_heap HBK2.out]; rfl); have f1 := Lib.frozen_of_heap HBK2.out 1; have hb2 : b < w2.heap.size := (Array.getElem?_eq_some_iff.1 HBK2.out).1; clear hgrow hown'))
  have HFI := Lib.hid (Lib.BuilderAt.put (T := 63) (e := 5) HBB.out HBK2.out (bs' := Lib.byteCells (l ++ s)) (by
    have h := HO2.out
    rw [HST.out, ← Lib.byteCells_append] at h
    rw [show (Lib.byteCells (l ++ s)).length = (Lib.byteCells l).length + (ofL s).size by rw [Lib.byteCells_length, Lib.byteCells_length, ofL_size, List.length_append]]
    exact h) (by decide))
  go_ret2
  refine ⟨rfl, Or.inr HFI.out, ?_⟩
  exact ((HBE.out.grown HG.out HB1.out (fun k hk => (HOW.out.lt k hk).1)).setCell (p := ⟨b, 1, none⟩) HBB.out _)
theorem sbStr_any (B b : Nat) (l : List UInt8) (w : World) (h : Sb B b l w) (hB : B ≤ w.heap.size) :
    Calls Tryz.prog 27 #[.pointer (some ⟨b, 0, none⟩)] w fun e w' => e = .returned (.string (ofL l)) ∧ Below B w w' := by
  refine (Tryz.Builder_String_any_f B b l w (Lib.IsBuilderF.of h) hB).mono ?_
  rintro e w' ⟨rfl, _, hb⟩
  exact ⟨rfl, hb⟩
theorem sb_new (w : World) : Sb w.heap.size w.heap.size [] (w.alloc (.cells #[.pointer none, .slice none 0 0] 63)) := Lib.fresh_isBuilder 63 5 w
end Go.Proofs.YtnjlhafhgfpfiaaGreatDoor
end
