/-
  WHAT A LINE TELLS: the document's answer, walked.
  WHAT A LINE TELLS: the document's answer, walked: a slot, a grant, a label.
  WHAT A LINE TELLS: the document's answer, walked: a label.
  WHAT A LINE TELLS: the document's answer, walked: any line.
  THE POLICY OF A TEXT: the document's answer, walked.
  THE POLICY OF A TEXT, walked: the program's Parse; a nil row has no room.
  THE LAW ON TEXTS OF POLICIES, walked.
-/
import Derived.Test.YtokljdaofjgihaaGreatDoorLawE
import Derived.Test.YtokljdaofjgihaaGreatDoorRdP
import Derived.Test.YtokljdaofjgihaaGreatDoorWordR
import Derived.Test.YtokljdaofjgihaaGreatDoorTextAD
import Derived.Test.YtokljdaofjgihaaGreatDoorParG
import Derived.Maps.AppendAt
import Derived.RangeFuncBox
import Derived.Deep.AppendLies
import Derived.Deep.RegionWith
import Derived.Test.YtokljdaofjgihaaGreatDoorParH
import Derived.Test.YtokljdaofjgihaaGreatDoorParI
import Derived.Test.YtokljdaofjgihaaGreatDoorAwkA
import Derived.Deep.RegionHeld3
import Derived.Deep.DeepCutAuto
namespace Go.Proofs.YtokljdaofjgihaaGreatDoor
open Go.ChangeShapes Go.WideShapes Go.ChangeAt Go.RowKit

/-- a policy's rows of one's own, in blocks from B on -/
structure ROws (W : World) (B : Nat) (p : Pl.Pol) (pv sv gv : Value) : Prop where
  op : W.ownsRow B 73 5 pv p.places.length (pcs p.places)
  os : W.ownsRow B 3 1 sv p.slots.length (ics p.slots)
  og : W.ownsRow B 76 3 gv p.grants.length (gcs p.grants)
  BW : B ≤ W.heap.size
  fits : ∀ i, i < p.places.length → PlcFits (Pl.plc p.places i)
theorem ROws.kept {W W' : World} {B r : Nat} {p : Pl.Pol} {pv sv gv : Value} (h : ROws W B p pv sv gv) (hg : W.grownBy W' (some r)) (h1 : pv.ownBlock ≠ some r) (h2 : sv.ownBlock ≠ some r) (h3 : gv.ownBlock ≠ some r) : ROws W' B p pv sv gv :=
  ⟨h.op.kept hg (.inr h1), h.os.kept hg (.inr h2), h.og.kept hg (.inr h3), Nat.le_trans h.BW hg.size, h.fits⟩
theorem ROws.far {W : World} {B : Nat} {p : Pl.Pol} {pv sv gv : Value} (h : ROws W B p pv sv gv) {q : Nat} (hq : W.heap.size ≤ q) : pv.ownBlock ≠ some q ∧ sv.ownBlock ≠ some q ∧ gv.ownBlock ≠ some q :=
  ⟨fun e => by have := (h.op.lt _ e).2; omega, fun e => by have := (h.os.lt _ e).2; omega, fun e => by have := (h.og.lt _ e).2; omega⟩
theorem ROws.on {W W' : World} {B : Nat} {p : Pl.Pol} {pv sv gv : Value} (h : ROws W B p pv sv gv) (hb : Below W.heap.size W W') : ROws W' B p pv sv gv :=
  have f := h.far (Nat.le_refl W.heap.size)
  h.kept (gb hb _) f.1 f.2.1 f.2.2
theorem ROws.put {W : World} {B q : Nat} {p : Pl.Pol} {pv sv gv : Value} (h : ROws W B p pv sv gv) (f : pv.ownBlock ≠ some q ∧ sv.ownBlock ≠ some q ∧ gv.ownBlock ≠ some q) (i : Nat) (v : Value) : ROws (W.setCell ⟨q, i, none⟩ v) B p pv sv gv :=
  h.kept (only_set W q i v) f.1 f.2.1 f.2.2
theorem ROws.put5 {W : World} {B q : Nat} {p : Pl.Pol} {pv sv gv : Value} (h : ROws W B p pv sv gv) (f : pv.ownBlock ≠ some q ∧ sv.ownBlock ≠ some q ∧ gv.ownBlock ≠ some q) (v0 v1 v2 v3 v4 : Value) :
    ROws (((((W.setCell ⟨q, 0, none⟩ v0).setCell ⟨q, 1, none⟩ v1).setCell ⟨q, 2, none⟩ v2).setCell ⟨q, 3, none⟩ v3).setCell ⟨q, 4, none⟩ v4) B p pv sv gv :=
  ((((h.put f 0 v0).put f 1 v1).put f 2 v2).put f 3 v3).put f 4 v4
theorem ROws.work {W : World} {B : Nat} {p : Pl.Pol} {pv sv gv : Value} (h : ROws W B p pv sv gv) (x : Int) : ROws W B { p with work := x } pv sv gv := ⟨h.op, h.os, h.og, h.BW, h.fits⟩
theorem ROws.give {W : World} {B : Nat} {p : Pl.Pol} {pv sv gv : Value} (h : ROws W B p pv sv gv) (x : Int) : ROws W B { p with give := x } pv sv gv := ⟨h.op, h.os, h.og, h.BW, h.fits⟩
/-- a policy's box, whole -/
def PBx (W : World) (q : Nat) (x0 x1 x2 x3 x4 : Value) : Prop := W.heap[q]? = some (.cells #[x0, x1, x2, x3, x4] 32 (0, 0))
theorem PBx.c {W : World} {q : Nat} {x0 x1 x2 x3 x4 : Value} (h : PBx W q x0 x1 x2 x3 x4) : Cell5 W q x0 x1 x2 x3 x4 := by
  constructor <;> simp [World.cell?, show W.heap[q]? = _ from h]
theorem PBx.f {W : World} {q : Nat} {x0 x1 x2 x3 x4 : Value} (h : PBx W q x0 x1 x2 x3 x4) (j : Nat) : W.frozen? ⟨q, j, none⟩ = false := by simp [World.frozen?, show W.heap[q]? = _ from h]
theorem PBx.lt {W : World} {q : Nat} {x0 x1 x2 x3 x4 : Value} (h : PBx W q x0 x1 x2 x3 x4) : q < W.heap.size := (Array.getElem?_eq_some_iff.1 h).1
theorem PBx.kept {W W' : World} {q : Nat} {x0 x1 x2 x3 x4 : Value} {row : Option Nat} (h : PBx W q x0 x1 x2 x3 x4) (hg : W.grownBy W' row) (hr : row ≠ some q) : PBx W' q x0 x1 x2 x3 x4 := (hg.block q h.lt (fun e => hr e.symm)).trans h
theorem PBx.on {W W' : World} {q : Nat} {x0 x1 x2 x3 x4 : Value} (h : PBx W q x0 x1 x2 x3 x4) (hb : Below W.heap.size W W') : PBx W' q x0 x1 x2 x3 x4 := h.kept (gb hb none) (by simp)
theorem PBx.new (w : World) (x0 x1 x2 x3 x4 : Value) : PBx (w.alloc (.cells #[x0, x1, x2, x3, x4] 32)) w.heap.size x0 x1 x2 x3 x4 := heap_alloc_new w _
theorem PBx.ne {W : World} {q B e size n : Nat} {x0 x1 x2 x3 x4 v : Value} {xs : List Value} (h : PBx W q x0 x1 x2 x3 x4) (ho : W.ownsRow B e size v n xs) (he : e ≠ 32) : v.ownBlock ≠ some q := by
  rcases ho.2 with ⟨rfl, _⟩ | ⟨g, cap, cur, rfl, _, hb, _⟩
  · intro k; cases k
  · intro k
    have hg : g = q := Option.some.inj k
    subst hg
    have := (show W.heap[g]? = _ from h).symm.trans hb
    simp at this
    exact he this.2.symm
/-- what a line tells, how many words it has looked at first -/
def Pl.lineV (p : Pl.Pol) (f : List UInt8) (r : List (List UInt8)) : Nat × Pl.Pol := if r.length + 1 ≠ Pl.asked f then (4, p) else Pl.tell p f r
/-- what comes out of the document's line -/
def LinePost (B : Nat) (q : Nat × Pl.Pol) (W : World) (e : Ending) (W' : World) : Prop :=
  ∃ (p' : Pl.Pol) (pv sv gv : Value), e = .returned (.tuple #[.agg #[.int .i64 p'.work, .int .i64 p'.give, pv, sv, gv], .int .i64 (q.1 : Int)]) ∧ (q.1 = 0 → p' = q.2) ∧ p'.size ≤ q.2.size ∧ ROws W' B p' pv sv gv ∧ Below B W W'
theorem row_nil (W : World) (B e size : Nat) : W.ownsRow B e size (.slice none 0 0) 0 [] := World.ownsRow_nil _ _ _ _
/-- the two boxes of a call of line's -/
structure LnB (W0 : World) (B b : Nat) (p : Pl.Pol) (pv sv gv : Value) (W : World) : Prop where
  own : ROws W B p pv sv gv
  f0 : pv.ownBlock ≠ some b ∧ sv.ownBlock ≠ some b ∧ gv.ownBlock ≠ some b
  f1 : pv.ownBlock ≠ some (b + 1) ∧ sv.ownBlock ≠ some (b + 1) ∧ gv.ownBlock ≠ some (b + 1)
  b0 : PBx W b (.int .i64 p.work) (.int .i64 p.give) pv sv gv
  b1 : PBx W (b + 1) (.int .i64 0) (.int .i64 0) (.slice none 0 0) (.slice none 0 0) (.slice none 0 0)
  Bb : B ≤ b
  bel : Below B W0 W
theorem LnB.on {W0 W W' : World} {B b : Nat} {p : Pl.Pol} {pv sv gv : Value} (h : LnB W0 B b p pv sv gv W) (hb : Below W.heap.size W W') : LnB W0 B b p pv sv gv W' :=
  ⟨h.own.on hb, h.f0, h.f1, h.b0.on hb, h.b1.on hb, h.Bb, h.bel.trans (hb.mono h.own.BW)⟩
theorem LnB.new {W : World} {B : Nat} {p : Pl.Pol} {pv sv gv : Value} (h : ROws W B p pv sv gv) : LnB W B W.heap.size p pv sv gv ((W.alloc (.cells #[.int .i64 p.work, .int .i64 p.give, pv, sv, gv] 32)).alloc (.cells #[.int .i64 0, .int .i64 0, .slice none 0 0, .slice none 0 0, .slice none 0 0] 32)) := by
  have h1 : Below W.heap.size W (W.alloc (.cells #[.int .i64 p.work, .int .i64 p.give, pv, sv, gv] 32)) := (Below.refl _ _).alloc (Nat.le_refl _) _
  have h2 : Below (W.alloc (.cells #[.int .i64 p.work, .int .i64 p.give, pv, sv, gv] 32)).heap.size (W.alloc (.cells #[.int .i64 p.work, .int .i64 p.give, pv, sv, gv] 32)) ((W.alloc (.cells #[.int .i64 p.work, .int .i64 p.give, pv, sv, gv] 32)).alloc (.cells #[.int .i64 0, .int .i64 0, .slice none 0 0, .slice none 0 0, .slice none 0 0] 32)) := (Below.refl _ _).alloc (Nat.le_refl _) _
  have hn := PBx.new (W.alloc (.cells #[.int .i64 p.work, .int .i64 p.give, pv, sv, gv] 32)) (.int .i64 0) (.int .i64 0) (.slice none 0 0) (.slice none 0 0) (.slice none 0 0)
  rw [World.size_alloc] at hn
  exact ⟨(h.on h1).on h2, h.far (Nat.le_refl _), h.far (by omega), (PBx.new W _ _ _ _ _).on h2, hn, h.BW, (h1.mono h.BW).trans (h2.mono (by have := h.BW; simp; omega))⟩
/-- what is handed back is laid into the second box -/
theorem LnB.fin {W0 W : World} {B b : Nat} {p : Pl.Pol} {pv sv gv : Value} (h : LnB W0 B b p pv sv gv W) (v0 v1 v2 v3 v4 : Value) :
    ROws (((((W.setCell ⟨b + 1, 0, none⟩ v0).setCell ⟨b + 1, 1, none⟩ v1).setCell ⟨b + 1, 2, none⟩ v2).setCell ⟨b + 1, 3, none⟩ v3).setCell ⟨b + 1, 4, none⟩ v4) B p pv sv gv ∧
    Below B W0 (((((W.setCell ⟨b + 1, 0, none⟩ v0).setCell ⟨b + 1, 1, none⟩ v1).setCell ⟨b + 1, 2, none⟩ v2).setCell ⟨b + 1, 3, none⟩ v3).setCell ⟨b + 1, 4, none⟩ v4) :=
  have hb : B ≤ b + 1 := by have := h.Bb; omega
  ⟨h.own.put5 h.f1 _ _ _ _ _, ((((h.bel.setCell (p := ⟨b + 1, 0, none⟩) hb _).setCell (p := ⟨b + 1, 1, none⟩) hb _).setCell (p := ⟨b + 1, 2, none⟩) hb _).setCell (p := ⟨b + 1, 3, none⟩) hb _).setCell (p := ⟨b + 1, 4, none⟩) hb _⟩
theorem rows_shape {W : World} {B : Nat} {p : Pl.Pol} {pv sv gv : Value} (h : ROws W B p pv sv gv) : ∃ pa pc sa sc ga gc, pv = .slice pa p.places.length pc ∧ sv = .slice sa p.slots.length sc ∧ gv = .slice ga p.grants.length gc ∧ (sa = none → sc = 0) := by
  obtain ⟨pa, pc, h1, -, -, -⟩ := rown_plcs h.op h.fits
  obtain ⟨ga, gc, g1, -, -, -⟩ := rown_grns h.og
  rcases h.os.2 with ⟨hv, hn⟩ | ⟨g, cap, cur, hv, -⟩
  · exact ⟨pa, pc, none, 0, ga, gc, h1, by rw [hv, hn], g1, fun _ => rfl⟩
  · exact ⟨pa, pc, _, cap, ga, gc, h1, hv, g1, fun e => by cases e⟩
theorem below5 {B q : Nat} {W0 W : World} (h : Below B W0 W) (hq : B ≤ q) (v0 v1 v2 v3 v4 : Value) : Below B W0 (((((W.setCell ⟨q, 0, none⟩ v0).setCell ⟨q, 1, none⟩ v1).setCell ⟨q, 2, none⟩ v2).setCell ⟨q, 3, none⟩ v3).setCell ⟨q, 4, none⟩ v4) :=
  ((((h.setCell (p := ⟨q, 0, none⟩) hq _).setCell (p := ⟨q, 1, none⟩) hq _).setCell (p := ⟨q, 2, none⟩) hq _).setCell (p := ⟨q, 3, none⟩) hq _).setCell (p := ⟨q, 4, none⟩) hq _
set_option maxRecDepth 100000 in
set_option maxHeartbeats 4000000 in
/-- a line of too few or too many words -/
theorem line_bad (B : Nat) (p : Pl.Pol) (pv sv gv : Value) (A : Option Addr) (c : Nat) (f : List UInt8) (r : List (List UInt8)) (W : World) (h : ROws W B p pv sv gv) (hr : Reads W A (f :: r)) (_hl : r.length ≤ 100000) (hb : r.length + 1 ≠ Pl.asked f) :
    Calls Tryz.prog 56 #[.agg #[.int .i64 p.work, .int .i64 p.give, pv, sv, gv], .slice A (r.length + 1) c] W (LinePost B (4, p) W) := by
  obtain ⟨pa, pc, sa, sc, ga, gc, rfl, rfl, rfl, -⟩ := rows_shape h
  have HL := Lib.hid (LnB.new h)
  have HR := Lib.hid ((hr.on ((Below.refl _ _).alloc (Nat.le_refl _) (.cells #[.int .i64 p.work, .int .i64 p.give, .slice pa p.places.length pc, .slice sa p.slots.length sc, .slice ga p.grants.length gc] 32))).on ((Below.refl _ _).alloc (Nat.le_refl _) (.cells #[.int .i64 0, .int .i64 0, .slice none 0 0, .slice none 0 0, .slice none 0 0] 32)))
  clear h hr
  go_enter Tryz.func56, Tryz.ntmps56
  go_upto_region 1 with fail
  generalize (W.alloc (.cells #[.int .i64 p.work, .int .i64 p.give, .slice pa p.places.length pc, .slice sa p.slots.length sc, .slice ga p.grants.length gc] 32)).alloc (.cells #[.int .i64 0, .int .i64 0, .slice none 0 0, .slice none 0 0, .slice none 0 0] 32) = W2 at *
  generalize W.heap.size = b at *
  obtain ⟨g, hA, x0⟩ := HR.out 0 (by simp)
  subst hA
  simp only [List.getElem_cons_zero] at x0
  obtain ⟨c0, c1, c2, c3, c4⟩ := HL.out.b0.c
  obtain ⟨d0, d1, d2, d3, d4⟩ := HL.out.b1.c
  have e0 := HL.out.b1.f 0
  have e1 := HL.out.b1.f 1
  have e2 := HL.out.b1.f 2
  have e3 := HL.out.b1.f 3
  have e4 := HL.out.b1.f 4
  have hlt := HL.out.b1.lt
  have HF := Lib.hid (HL.out.fin (.int .i64 p.work) (.int .i64 p.give) (.slice pa p.places.length pc) (.slice sa p.slots.length sc) (.slice ga p.grants.length gc))
  by_cases hwWork : f = Pl.wWork
  · subst hwWork
    have hb' : ¬ (r.length : Int) + 1 = 2 := by have : r.length + 1 ≠ 2 := hb; omega
    rw [show ofL Pl.wWork = (⟨#[119, 111, 114, 107]⟩ : ByteArray) from rfl] at x0
    clear hb
    go_wp2_with fail
    refine bodyPost_ret (v := .tuple #[.agg #[.int .i64 p.work, .int .i64 p.give, .slice pa p.places.length pc, .slice sa p.slots.length sc, .slice ga p.grants.length gc], .int .i64 4]) (by simp [results, Tryz.results56, go_sem, d0, d1, d2, d3, d4]) rfl ?_
    exact ⟨p, _, _, _, rfl, fun _ => rfl, Nat.le_refl _, HF.out.1, HF.out.2⟩
  by_cases hwGive : f = Pl.wGive
  · subst hwGive
    have hb' : ¬ (r.length : Int) + 1 = 2 := by have : r.length + 1 ≠ 2 := hb; omega
    rw [show ofL Pl.wGive = (⟨#[103, 105, 118, 101]⟩ : ByteArray) from rfl] at x0
    clear hb
    go_wp2_with fail
    refine bodyPost_ret (v := .tuple #[.agg #[.int .i64 p.work, .int .i64 p.give, .slice pa p.places.length pc, .slice sa p.slots.length sc, .slice ga p.grants.length gc], .int .i64 4]) (by simp [results, Tryz.results56, go_sem, d0, d1, d2, d3, d4]) rfl ?_
    exact ⟨p, _, _, _, rfl, fun _ => rfl, Nat.le_refl _, HF.out.1, HF.out.2⟩
  by_cases hwSlot : f = Pl.wSlot
  · subst hwSlot
    have hb' : ¬ (r.length : Int) + 1 = 2 := by have : r.length + 1 ≠ 2 := hb; omega
    rw [show ofL Pl.wSlot = (⟨#[115, 108, 111, 116]⟩ : ByteArray) from rfl] at x0
    clear hb
    go_wp2_with fail
    refine bodyPost_ret (v := .tuple #[.agg #[.int .i64 p.work, .int .i64 p.give, .slice pa p.places.length pc, .slice sa p.slots.length sc, .slice ga p.grants.length gc], .int .i64 4]) (by simp [results, Tryz.results56, go_sem, d0, d1, d2, d3, d4]) rfl ?_
    exact ⟨p, _, _, _, rfl, fun _ => rfl, Nat.le_refl _, HF.out.1, HF.out.2⟩
  by_cases hwLabel : f = Pl.wLabel
  · subst hwLabel
    have hb' : ¬ (r.length : Int) + 1 = 5 := by have : r.length + 1 ≠ 5 := hb; omega
    rw [show ofL Pl.wLabel = (⟨#[108, 97, 98, 101, 108]⟩ : ByteArray) from rfl] at x0
    clear hb
    go_wp2_with fail
    refine bodyPost_ret (v := .tuple #[.agg #[.int .i64 p.work, .int .i64 p.give, .slice pa p.places.length pc, .slice sa p.slots.length sc, .slice ga p.grants.length gc], .int .i64 4]) (by simp [results, Tryz.results56, go_sem, d0, d1, d2, d3, d4]) rfl ?_
    exact ⟨p, _, _, _, rfl, fun _ => rfl, Nat.le_refl _, HF.out.1, HF.out.2⟩
  by_cases hwGrant : f = Pl.wGrant
  · subst hwGrant
    have hb' : ¬ (r.length : Int) + 1 = 4 := by have : r.length + 1 ≠ 4 := hb; omega
    rw [show ofL Pl.wGrant = (⟨#[103, 114, 97, 110, 116]⟩ : ByteArray) from rfl] at x0
    clear hb
    go_wp2_with fail
    refine bodyPost_ret (v := .tuple #[.agg #[.int .i64 p.work, .int .i64 p.give, .slice pa p.places.length pc, .slice sa p.slots.length sc, .slice ga p.grants.length gc], .int .i64 4]) (by simp [results, Tryz.results56, go_sem, d0, d1, d2, d3, d4]) rfl ?_
    exact ⟨p, _, _, _, rfl, fun _ => rfl, Nat.le_refl _, HF.out.1, HF.out.2⟩
  have k0 : ((ofL f).toList == [119, 111, 114, 107]) = false := by rw [show (ofL f).toList = f from ofL_str f]; exact beq_eq_false_iff_ne.2 hwWork
  have k1 : ((ofL f).toList == [103, 105, 118, 101]) = false := by rw [show (ofL f).toList = f from ofL_str f]; exact beq_eq_false_iff_ne.2 hwGive
  have k2 : ((ofL f).toList == [115, 108, 111, 116]) = false := by rw [show (ofL f).toList = f from ofL_str f]; exact beq_eq_false_iff_ne.2 hwSlot
  have k3 : ((ofL f).toList == [108, 97, 98, 101, 108]) = false := by rw [show (ofL f).toList = f from ofL_str f]; exact beq_eq_false_iff_ne.2 hwLabel
  have k4 : ((ofL f).toList == [103, 114, 97, 110, 116]) = false := by rw [show (ofL f).toList = f from ofL_str f]; exact beq_eq_false_iff_ne.2 hwGrant
  clear hb hwWork hwGive hwSlot hwLabel hwGrant
  go_wp2_with fail
  refine bodyPost_ret (v := .tuple #[.agg #[.int .i64 p.work, .int .i64 p.give, .slice pa p.places.length pc, .slice sa p.slots.length sc, .slice ga p.grants.length gc], .int .i64 4]) (by simp [results, Tryz.results56, go_sem, d0, d1, d2, d3, d4]) rfl ?_
  exact ⟨p, _, _, _, rfl, fun _ => rfl, Nat.le_refl _, HF.out.1, HF.out.2⟩
set_option maxRecDepth 100000 in
set_option maxHeartbeats 4000000 in
/-- a line that tells a number -/
theorem line_work (B : Nat) (p : Pl.Pol) (pv sv gv : Value) (A : Option Addr) (c : Nat) (x : List UInt8) (W : World) (h : ROws W B p pv sv gv) (hr : Reads W A [Pl.wWork, x]) (hx : x.length ≤ 100000) :
    Calls Tryz.prog 56 #[.agg #[.int .i64 p.work, .int .i64 p.give, pv, sv, gv], .slice A 2 c] W (LinePost B (Pl.tell p Pl.wWork [x]) W) := by
  obtain ⟨pa, pc, sa, sc, ga, gc, rfl, rfl, rfl, hnil⟩ := rows_shape h
  have HL := Lib.hid (LnB.new h)
  have HR := Lib.hid ((hr.on ((Below.refl _ _).alloc (Nat.le_refl _) (.cells #[.int .i64 p.work, .int .i64 p.give, .slice pa p.places.length pc, .slice sa p.slots.length sc, .slice ga p.grants.length gc] 32))).on ((Below.refl _ _).alloc (Nat.le_refl _) (.cells #[.int .i64 0, .int .i64 0, .slice none 0 0, .slice none 0 0, .slice none 0 0] 32)))
  have HN := Lib.hid (fun W => rsm_any x W hx)
  have HQ := Lib.hid (tell_w p x [])
  clear h hr
  go_enter Tryz.func56, Tryz.ntmps56
  go_upto_region 1 with fail
  generalize (W.alloc (.cells #[.int .i64 p.work, .int .i64 p.give, .slice pa p.places.length pc, .slice sa p.slots.length sc, .slice ga p.grants.length gc] 32)).alloc (.cells #[.int .i64 0, .int .i64 0, .slice none 0 0, .slice none 0 0, .slice none 0 0] 32) = W2 at *
  generalize W.heap.size = b at *
  obtain ⟨g, hA, x0⟩ := HR.out 0 (by simp)
  subst hA
  simp only [List.getElem_cons_zero] at x0
  rw [show ofL Pl.wWork = (⟨#[119, 111, 114, 107]⟩ : ByteArray) from rfl] at x0
  obtain ⟨g', hA', x1⟩ := HR.out 1 (by simp)
  cases hA'
  simp only [List.getElem_cons_succ, List.getElem_cons_zero] at x1
  obtain ⟨c0, c1, c2, c3, c4⟩ := HL.out.b0.c
  obtain ⟨d0, d1, d2, d3, d4⟩ := HL.out.b1.c
  have e0 := HL.out.b1.f 0
  have e1 := HL.out.b1.f 1
  have e2 := HL.out.b1.f 2
  have e3 := HL.out.b1.f 3
  have e4 := HL.out.b1.f 4
  have hlt := HL.out.b1.lt
  generalize Pl.num Pl.small x = M at *
  generalize Pl.tell p Pl.wWork [x] = Q at *
  obtain ⟨m, code⟩ := M
  simp only at HN HQ
  have f0 := HL.out.b0.f 0
  have hlb := HL.out.b0.lt
  have HW := Lib.hid (HL.out.own.put HL.out.f0 0 (.int .i64 (m : Int)))
  have HB := Lib.hid (HL.out.bel.setCell (p := ⟨b, 0, none⟩) HL.out.Bb (.int .i64 (m : Int)))
  have HBb := Lib.hid HL.out.Bb
  have HF1 := Lib.hid HL.out.f1
  go_wp2_with (go_at_call 82; refine (HN.out _).mono ?_; rintro e' w' ⟨rfl, rfl⟩)
  have z0 := (World.cell?_setCell_other W2 ⟨b, 0, none⟩ ⟨b + 1, 0, none⟩ (.int .i64 (m : Int)) (fun e => by have := congrArg Addr.block e; simp at this)).trans d0
  have z1 := (World.cell?_setCell_other W2 ⟨b, 0, none⟩ ⟨b + 1, 1, none⟩ (.int .i64 (m : Int)) (fun e => by have := congrArg Addr.block e; simp at this)).trans d1
  have z2 := (World.cell?_setCell_other W2 ⟨b, 0, none⟩ ⟨b + 1, 2, none⟩ (.int .i64 (m : Int)) (fun e => by have := congrArg Addr.block e; simp at this)).trans d2
  have z3 := (World.cell?_setCell_other W2 ⟨b, 0, none⟩ ⟨b + 1, 3, none⟩ (.int .i64 (m : Int)) (fun e => by have := congrArg Addr.block e; simp at this)).trans d3
  have z4 := (World.cell?_setCell_other W2 ⟨b, 0, none⟩ ⟨b + 1, 4, none⟩ (.int .i64 (m : Int)) (fun e => by have := congrArg Addr.block e; simp at this)).trans d4
  refine bodyPost_ret (v := .tuple #[.agg #[.int .i64 (m : Int), .int .i64 p.give, .slice pa p.places.length pc, .slice sa p.slots.length sc, .slice ga p.grants.length gc], .int .i64 (code : Int)]) (by simp [results, Tryz.results56, go_sem, z0, z1, z2, z3, z4]) rfl ?_
  rw [HQ.out]
  exact ⟨{ p with work := (m : Int) }, _, _, _, rfl, fun _ => rfl, Nat.le_refl _, (HW.out.work (m : Int)).put5 HF1.out _ _ _ _ _, below5 HB.out (by have := HBb.out; omega) _ _ _ _ _⟩
set_option maxRecDepth 100000 in
set_option maxHeartbeats 4000000 in
/-- a line that tells a number -/
theorem line_give (B : Nat) (p : Pl.Pol) (pv sv gv : Value) (A : Option Addr) (c : Nat) (x : List UInt8) (W : World) (h : ROws W B p pv sv gv) (hr : Reads W A [Pl.wGive, x]) (hx : x.length ≤ 100000) :
    Calls Tryz.prog 56 #[.agg #[.int .i64 p.work, .int .i64 p.give, pv, sv, gv], .slice A 2 c] W (LinePost B (Pl.tell p Pl.wGive [x]) W) := by
  obtain ⟨pa, pc, sa, sc, ga, gc, rfl, rfl, rfl, hnil⟩ := rows_shape h
  have HL := Lib.hid (LnB.new h)
  have HR := Lib.hid ((hr.on ((Below.refl _ _).alloc (Nat.le_refl _) (.cells #[.int .i64 p.work, .int .i64 p.give, .slice pa p.places.length pc, .slice sa p.slots.length sc, .slice ga p.grants.length gc] 32))).on ((Below.refl _ _).alloc (Nat.le_refl _) (.cells #[.int .i64 0, .int .i64 0, .slice none 0 0, .slice none 0 0, .slice none 0 0] 32)))
  have HN := Lib.hid (fun W => rsm_any x W hx)
  have HQ := Lib.hid (tell_g p x [])
  clear h hr
  go_enter Tryz.func56, Tryz.ntmps56
  go_upto_region 1 with fail
  generalize (W.alloc (.cells #[.int .i64 p.work, .int .i64 p.give, .slice pa p.places.length pc, .slice sa p.slots.length sc, .slice ga p.grants.length gc] 32)).alloc (.cells #[.int .i64 0, .int .i64 0, .slice none 0 0, .slice none 0 0, .slice none 0 0] 32) = W2 at *
  generalize W.heap.size = b at *
  obtain ⟨g, hA, x0⟩ := HR.out 0 (by simp)
  subst hA
  simp only [List.getElem_cons_zero] at x0
  rw [show ofL Pl.wGive = (⟨#[103, 105, 118, 101]⟩ : ByteArray) from rfl] at x0
  obtain ⟨g', hA', x1⟩ := HR.out 1 (by simp)
  cases hA'
  simp only [List.getElem_cons_succ, List.getElem_cons_zero] at x1
  obtain ⟨c0, c1, c2, c3, c4⟩ := HL.out.b0.c
  obtain ⟨d0, d1, d2, d3, d4⟩ := HL.out.b1.c
  have e0 := HL.out.b1.f 0
  have e1 := HL.out.b1.f 1
  have e2 := HL.out.b1.f 2
  have e3 := HL.out.b1.f 3
  have e4 := HL.out.b1.f 4
  have hlt := HL.out.b1.lt
  generalize Pl.num Pl.small x = M at *
  generalize Pl.tell p Pl.wGive [x] = Q at *
  obtain ⟨m, code⟩ := M
  simp only at HN HQ
  have f1 := HL.out.b0.f 1
  have hlb := HL.out.b0.lt
  have HW := Lib.hid (HL.out.own.put HL.out.f0 1 (.int .i64 (m : Int)))
  have HB := Lib.hid (HL.out.bel.setCell (p := ⟨b, 1, none⟩) HL.out.Bb (.int .i64 (m : Int)))
  have HBb := Lib.hid HL.out.Bb
  have HF1 := Lib.hid HL.out.f1
  go_wp2_with (go_at_call 82; refine (HN.out _).mono ?_; rintro e' w' ⟨rfl, rfl⟩)
  have z0 := (World.cell?_setCell_other W2 ⟨b, 1, none⟩ ⟨b + 1, 0, none⟩ (.int .i64 (m : Int)) (fun e => by have := congrArg Addr.block e; simp at this)).trans d0
  have z1 := (World.cell?_setCell_other W2 ⟨b, 1, none⟩ ⟨b + 1, 1, none⟩ (.int .i64 (m : Int)) (fun e => by have := congrArg Addr.block e; simp at this)).trans d1
  have z2 := (World.cell?_setCell_other W2 ⟨b, 1, none⟩ ⟨b + 1, 2, none⟩ (.int .i64 (m : Int)) (fun e => by have := congrArg Addr.block e; simp at this)).trans d2
  have z3 := (World.cell?_setCell_other W2 ⟨b, 1, none⟩ ⟨b + 1, 3, none⟩ (.int .i64 (m : Int)) (fun e => by have := congrArg Addr.block e; simp at this)).trans d3
  have z4 := (World.cell?_setCell_other W2 ⟨b, 1, none⟩ ⟨b + 1, 4, none⟩ (.int .i64 (m : Int)) (fun e => by have := congrArg Addr.block e; simp at this)).trans d4
  refine bodyPost_ret (v := .tuple #[.agg #[.int .i64 p.work, .int .i64 (m : Int), .slice pa p.places.length pc, .slice sa p.slots.length sc, .slice ga p.grants.length gc], .int .i64 (code : Int)]) (by simp [results, Tryz.results56, go_sem, z0, z1, z2, z3, z4]) rfl ?_
  rw [HQ.out]
  exact ⟨{ p with give := (m : Int) }, _, _, _, rfl, fun _ => rfl, Nat.le_refl _, (HW.out.give (m : Int)).put5 HF1.out _ _ _ _ _, below5 HB.out (by have := HBb.out; omega) _ _ _ _ _⟩
end Go.Proofs.YtokljdaofjgihaaGreatDoor
namespace Go.Proofs.YtokljdaofjgihaaGreatDoor
open Go.ChangeShapes Go.WideShapes Go.ChangeAt Go.RowKit

theorem LnB.app {W0 W w1 : World} {B b : Nat} {p : Pl.Pol} {pv sv gv : Value} (h : LnB W0 B b p pv sv gv W) {row : Option Nat} (hg : W.grownBy w1 row) (hr : row = pv.ownBlock ∨ row = sv.ownBlock ∨ row = gv.ownBlock) :
    PBx w1 b (.int .i64 p.work) (.int .i64 p.give) pv sv gv ∧ PBx w1 (b + 1) (.int .i64 0) (.int .i64 0) (.slice none 0 0) (.slice none 0 0) (.slice none 0 0) ∧ Below B W0 w1 := by
  have r0 : row ≠ some b := by rcases hr with e | e | e <;> rw [e]; exact h.f0.1; exact h.f0.2.1; exact h.f0.2.2
  have r1 : row ≠ some (b + 1) := by rcases hr with e | e | e <;> rw [e]; exact h.f1.1; exact h.f1.2.1; exact h.f1.2.2
  refine ⟨h.b0.kept hg r0, h.b1.kept hg r1, h.bel.grown hg h.own.BW (fun k hk => ?_)⟩
  rcases hr with e | e | e
  · exact (h.own.op.lt k (e.symm.trans hk)).1
  · exact (h.own.os.lt k (e.symm.trans hk)).1
  · exact (h.own.og.lt k (e.symm.trans hk)).1
theorem rows_slots {W w1 : World} {B : Nat} {p : Pl.Pol} {pv sv gv v' : Value} {x : Int} (h : ROws W B p pv sv gv) (hg : W.grownBy w1 sv.ownBlock) (ho : w1.ownsRow B 3 1 v' (p.slots.length + 1) (ics p.slots ++ [.int .i64 x])) :
    ROws w1 B { p with slots := p.slots ++ [x] } pv v' gv :=
  ⟨h.op.kept hg (own_types h.op h.os (by decide)), by rw [List.length_append, ics_snoc]; exact ho, h.og.kept hg (own_types h.og h.os (by decide)), Nat.le_trans h.BW hg.size, h.fits⟩
theorem rows_grants {W w1 : World} {B : Nat} {p : Pl.Pol} {pv sv gv v' : Value} {x : Pl.Grn} (h : ROws W B p pv sv gv) (hg : W.grownBy w1 gv.ownBlock) (ho : w1.ownsRow B 76 3 v' (p.grants.length + 1) (gcs p.grants ++ grnL x)) :
    ROws w1 B { p with grants := p.grants ++ [x] } pv sv v' :=
  ⟨h.op.kept hg (own_types h.op h.og (by decide)), h.os.kept hg (own_types h.os h.og (by decide)), by rw [List.length_append, gcs_snoc]; exact ho, Nat.le_trans h.BW hg.size, h.fits⟩
theorem rows_places {W w1 : World} {B : Nat} {p : Pl.Pol} {pv sv gv v' : Value} {x : Pl.Plc} (h : ROws W B p pv sv gv) (hx : PlcFits x) (hg : W.grownBy w1 pv.ownBlock) (ho : w1.ownsRow B 73 5 v' (p.places.length + 1) (pcs p.places ++ plcL x)) :
    ROws w1 B { p with places := p.places ++ [x] } v' sv gv := by
  refine ⟨by rw [List.length_append, pcs_snoc]; exact ho, h.os.kept hg (own_types h.os h.op (by decide)), h.og.kept hg (own_types h.og h.op (by decide)), Nat.le_trans h.BW hg.size, fun i hi => ?_⟩
  simp only [List.length_append, List.length_singleton] at hi
  unfold Pl.plc
  simp only
  by_cases e : i < p.places.length
  · rw [List.getD_eq_getElem?_getD, List.getElem?_append_left e, ← List.getD_eq_getElem?_getD]
    exact h.fits i e
  · obtain rfl : i = p.places.length := by omega
    rw [List.getD_eq_getElem?_getD, List.getElem?_append_right (Nat.le_refl _), Nat.sub_self]
    exact hx
theorem rows_plcs {W : World} {B : Nat} {p : Pl.Pol} {A : Option Addr} {n c : Nat} {sv gv : Value} (h : ROws W B p (.slice A n c) sv gv) : Plcs W A p.places := by
  obtain ⟨A', c', e, -, -, hP⟩ := rown_plcs h.op h.fits
  cases e
  exact hP
set_option maxRecDepth 100000 in
set_option maxHeartbeats 4000000 in
/-- a line that tells a slot -/
theorem line_slot (B : Nat) (p : Pl.Pol) (pv sv gv : Value) (A : Option Addr) (c : Nat) (x : List UInt8) (W : World) (h : ROws W B p pv sv gv) (hr : Reads W A [Pl.wSlot, x]) (hx : x.length ≤ 100000) (hsz : p.size ≤ 99999) :
    Calls Tryz.prog 56 #[.agg #[.int .i64 p.work, .int .i64 p.give, pv, sv, gv], .slice A 2 c] W (LinePost B (Pl.tell p Pl.wSlot [x]) W) := by
  obtain ⟨pa, pc, sa, sc, ga, gc, rfl, rfl, rfl, hnil⟩ := rows_shape h
  have HL := Lib.hid (LnB.new h)
  have HR := Lib.hid ((hr.on ((Below.refl _ _).alloc (Nat.le_refl _) (.cells #[.int .i64 p.work, .int .i64 p.give, .slice pa p.places.length pc, .slice sa p.slots.length sc, .slice ga p.grants.length gc] 32))).on ((Below.refl _ _).alloc (Nat.le_refl _) (.cells #[.int .i64 0, .int .i64 0, .slice none 0 0, .slice none 0 0, .slice none 0 0] 32)))
  have HQ := Lib.hid (tell_s p x [])
  unfold Pl.Pol.size at hsz
  have HFD := Lib.hid (fun W hp => rfind_any p pa pc sa sc ga gc x W (by omega) hx hp)
  obtain ⟨i0, hi0, hz0, hz1, hz2⟩ := info_parts info3
  simp only [polV] at HFD
  clear h hr
  go_enter Tryz.func56, Tryz.ntmps56
  go_upto_region 1 with fail
  generalize (W.alloc (.cells #[.int .i64 p.work, .int .i64 p.give, .slice pa p.places.length pc, .slice sa p.slots.length sc, .slice ga p.grants.length gc] 32)).alloc (.cells #[.int .i64 0, .int .i64 0, .slice none 0 0, .slice none 0 0, .slice none 0 0] 32) = W2 at *
  generalize W.heap.size = b at *
  obtain ⟨g, hA, x0⟩ := HR.out 0 (by simp)
  subst hA
  simp only [List.getElem_cons_zero] at x0
  rw [show ofL Pl.wSlot = (⟨#[115, 108, 111, 116]⟩ : ByteArray) from rfl] at x0
  obtain ⟨c0, c1, c2, c3, c4⟩ := HL.out.b0.c
  obtain ⟨d0, d1, d2, d3, d4⟩ := HL.out.b1.c
  have e0 := HL.out.b1.f 0
  have e1 := HL.out.b1.f 1
  have e2 := HL.out.b1.f 2
  have e3 := HL.out.b1.f 3
  have e4 := HL.out.b1.f 4
  have hlt := HL.out.b1.lt
  obtain ⟨g', hA', x1⟩ := HR.out 1 (by simp)
  cases hA'
  simp only [List.getElem_cons_succ, List.getElem_cons_zero] at x1
  generalize Pl.find p.places x = F at *
  generalize Pl.tell p Pl.wSlot [x] = Q at *
  go_wp2_with fail
  refine region_tail 4 (by kernel_rfl) (by kernel_rfl) ?_
  simp only [List.take_succ_cons, List.take_zero, List.drop_succ_cons, List.drop_zero]
  repeat still_step
  refine wpStill_nil ?_
  have HLd := Lib.hid (HL.out.on ((Below.refl _ _).drew))
  clear x0 x1 c0 c1 c2 c3 c4 d0 d1 d2 d3 d4 e0 e1 e2 e3 e4 hlt
  go_wp2_with fail
  refine (HFD.out _ (rows_plcs HLd.out.own)).mono ?_
  rintro e' W3 ⟨rfl, hB3⟩
  have HL3 := Lib.hid (HLd.out.on hB3)
  clear hB3
  obtain ⟨c0, c1, c2, c3, c4⟩ := HL3.out.b0.c
  obtain ⟨d0, d1, d2, d3, d4⟩ := HL3.out.b1.c
  have e0 := HL3.out.b1.f 0
  have e1 := HL3.out.b1.f 1
  have e2 := HL3.out.b1.f 2
  have e3 := HL3.out.b1.f 3
  have e4 := HL3.out.b1.f 4
  have hlt := HL3.out.b1.lt
  by_cases hF : F < 0
  · have HF := Lib.hid (HL3.out.fin (.int .i64 p.work) (.int .i64 p.give) (.slice pa p.places.length pc) (.slice sa p.slots.length sc) (.slice ga p.grants.length gc))
    go_wp2_with fail
    refine bodyPost_ret (v := .tuple #[.agg #[.int .i64 p.work, .int .i64 p.give, .slice pa p.places.length pc, .slice sa p.slots.length sc, .slice ga p.grants.length gc], .int .i64 10]) (by simp [results, Tryz.results56, go_sem, d0, d1, d2, d3, d4]) rfl ?_
    rw [HQ.out]
    exact ⟨p, _, _, _, by simp [Pl.none10, hF], fun h => absurd h (by simp [Pl.none10, hF]), by simp [Pl.Pol.size], HF.out.1, HF.out.2⟩
  · have hosW := HL3.out.own.os
    have hBW := HL3.out.own.BW
    have HLA := Lib.hid (HL3.out.on ((Below.refl _ _).alloc (Nat.le_refl _) (.cells #[.int .i64 F] 3)))
    go_wp2_with (first
      | (at_builtin; refine wpList_append_own _ rfl _ _ 23 rfl B 3 i0 (.int .i64 0) 1 8 Tryz.underlying23 hi0 hz0 hz1 hz2 rfl (by decide) _ _ _ rfl (hosW.alloc _) ⟨W3.heap.size, 0, none⟩ 1 1 [.int .i64 F] rfl rfl ?c1 ?c2 ?c3 ?c4 ?c5 ?_))
    case c1 =>
      intro q u hq
      match q, hq with
      | 0, hq => simp at hq; subst hq; simp [Addr.add]
    case c2 => intro u hu; simp at hu; subst hu; rfl
    case c3 => unfold maxLen; omega
    case c4 => omega
    case c5 => simp; omega
    intro v' w1 hown' hgrow _
    obtain ⟨g9, cap9, rfl⟩ := ownsRow_succ hown'
    have HG := Lib.hid hgrow
    have HO := Lib.hid hown'
    obtain ⟨P0, P1, BL⟩ := HLA.out.app hgrow (.inr (.inl rfl))
    have HP0 := Lib.hid P0
    have HP1 := Lib.hid P1
    have HBL := Lib.hid BL
    have HRW := Lib.hid (rows_slots HLA.out.own hgrow hown')
    have HN0 := Lib.hid (show _ ∧ _ ∧ _ from ⟨HL3.out.f0.1, P0.ne hown' (by decide), HL3.out.f0.2.2⟩)
    have HN1 := Lib.hid (show _ ∧ _ ∧ _ from ⟨HL3.out.f1.1, P1.ne hown' (by decide), HL3.out.f1.2.2⟩)
    clear hgrow hown' P0 P1 BL c0 c1 c2 c3 c4 d0 d1 d2 d3 d4 e0 e1 e2 e3 e4 hlt hosW hBW
    obtain ⟨c0, c1, c2, c3, c4⟩ := HP0.out.c
    obtain ⟨d0, d1, d2, d3, d4⟩ := HP1.out.c
    have f3 := HP0.out.f 3
    have e0 := HP1.out.f 0
    have e1 := HP1.out.f 1
    have e2 := HP1.out.f 2
    have e3 := HP1.out.f 3
    have e4 := HP1.out.f 4
    have hlb := HP0.out.lt
    have hlt := HP1.out.lt
    go_wp2_with fail
    have z0 := (World.cell?_setCell_other w1 ⟨b, 3, none⟩ ⟨b + 1, 0, none⟩ (.slice (some ⟨g9, 0, none⟩) (p.slots.length + 1) cap9) (fun e => by have := congrArg Addr.block e; simp at this)).trans d0
    have z1 := (World.cell?_setCell_other w1 ⟨b, 3, none⟩ ⟨b + 1, 1, none⟩ (.slice (some ⟨g9, 0, none⟩) (p.slots.length + 1) cap9) (fun e => by have := congrArg Addr.block e; simp at this)).trans d1
    have z2 := (World.cell?_setCell_other w1 ⟨b, 3, none⟩ ⟨b + 1, 2, none⟩ (.slice (some ⟨g9, 0, none⟩) (p.slots.length + 1) cap9) (fun e => by have := congrArg Addr.block e; simp at this)).trans d2
    have z3 := (World.cell?_setCell_other w1 ⟨b, 3, none⟩ ⟨b + 1, 3, none⟩ (.slice (some ⟨g9, 0, none⟩) (p.slots.length + 1) cap9) (fun e => by have := congrArg Addr.block e; simp at this)).trans d3
    have z4 := (World.cell?_setCell_other w1 ⟨b, 3, none⟩ ⟨b + 1, 4, none⟩ (.slice (some ⟨g9, 0, none⟩) (p.slots.length + 1) cap9) (fun e => by have := congrArg Addr.block e; simp at this)).trans d4
    refine bodyPost_ret (v := .tuple #[.agg #[.int .i64 p.work, .int .i64 p.give, .slice pa p.places.length pc, .slice (some ⟨g9, 0, none⟩) (p.slots.length + 1) cap9, .slice ga p.grants.length gc], .int .i64 0]) (by simp [results, Tryz.results56, go_sem, z0, z1, z2, z3, z4]) rfl ?_
    rw [HQ.out]
    have hc : Pl.none10 F = 0 := by simp [Pl.none10, hF]
    exact ⟨_, _, _, _, by simp only [hc]; rfl, fun _ => rfl, Nat.le_refl _, (HRW.out.put HN0.out 3 _).put5 HN1.out _ _ _ _ _, below5 (HBL.out.setCell (p := ⟨b, 3, none⟩) HL3.out.Bb _) (by have := HL3.out.Bb; omega) _ _ _ _ _⟩
set_option maxRecDepth 100000 in
set_option maxHeartbeats 4000000 in
/-- a line that tells a grant -/
theorem line_grant (B : Nat) (p : Pl.Pol) (pv sv gv : Value) (A : Option Addr) (c : Nat) (x y u : List UInt8) (W : World) (h : ROws W B p pv sv gv) (hr : Reads W A [Pl.wGrant, x, y, u]) (hx : x.length ≤ 100000) (hy : y.length ≤ 100000) (hu : u.length ≤ 100000) (hsz : p.size ≤ 99999) :
    Calls Tryz.prog 56 #[.agg #[.int .i64 p.work, .int .i64 p.give, pv, sv, gv], .slice A 4 c] W (LinePost B (Pl.tell p Pl.wGrant [x, y, u]) W) := by
  obtain ⟨pa, pc, sa, sc, ga, gc, rfl, rfl, rfl, hnil⟩ := rows_shape h
  have HL := Lib.hid (LnB.new h)
  have HR := Lib.hid ((hr.on ((Below.refl _ _).alloc (Nat.le_refl _) (.cells #[.int .i64 p.work, .int .i64 p.give, .slice pa p.places.length pc, .slice sa p.slots.length sc, .slice ga p.grants.length gc] 32))).on ((Below.refl _ _).alloc (Nat.le_refl _) (.cells #[.int .i64 0, .int .i64 0, .slice none 0 0, .slice none 0 0, .slice none 0 0] 32)))
  have HQ := Lib.hid (tell_r p x y u)
  unfold Pl.Pol.size at hsz
  have HFX := Lib.hid (fun W hp => rfind_any p pa pc sa sc ga gc x W (by omega) hx hp)
  have HFY := Lib.hid (fun W hp => rfind_any p pa pc sa sc ga gc y W (by omega) hy hp)
  have HN := Lib.hid (fun W => rsm_any u W hu)
  obtain ⟨i0, hi0, hz0, hz1, hz2⟩ := info_parts info76
  simp only [polV] at HFX HFY
  clear h hr
  go_enter Tryz.func56, Tryz.ntmps56
  go_upto_region 1 with fail
  generalize (W.alloc (.cells #[.int .i64 p.work, .int .i64 p.give, .slice pa p.places.length pc, .slice sa p.slots.length sc, .slice ga p.grants.length gc] 32)).alloc (.cells #[.int .i64 0, .int .i64 0, .slice none 0 0, .slice none 0 0, .slice none 0 0] 32) = W2 at *
  generalize W.heap.size = b at *
  obtain ⟨g, hA, x0⟩ := HR.out 0 (by simp)
  subst hA
  simp only [List.getElem_cons_zero] at x0
  rw [show ofL Pl.wGrant = (⟨#[103, 114, 97, 110, 116]⟩ : ByteArray) from rfl] at x0
  obtain ⟨c0, c1, c2, c3, c4⟩ := HL.out.b0.c
  obtain ⟨d0, d1, d2, d3, d4⟩ := HL.out.b1.c
  have e0 := HL.out.b1.f 0
  have e1 := HL.out.b1.f 1
  have e2 := HL.out.b1.f 2
  have e3 := HL.out.b1.f 3
  have e4 := HL.out.b1.f 4
  have hlt := HL.out.b1.lt
  obtain ⟨g', hA', x1⟩ := HR.out 1 (by simp)
  cases hA'
  simp only [List.getElem_cons_succ, List.getElem_cons_zero] at x1
  obtain ⟨g', hA', x2⟩ := HR.out 2 (by simp)
  cases hA'
  simp only [List.getElem_cons_succ, List.getElem_cons_zero] at x2
  obtain ⟨g', hA', x3⟩ := HR.out 3 (by simp)
  cases hA'
  simp only [List.getElem_cons_succ, List.getElem_cons_zero] at x3
  generalize Pl.find p.places x = F at *
  generalize Pl.find p.places y = G at *
  generalize Pl.num Pl.small u = M at *
  generalize Pl.tell p Pl.wGrant [x, y, u] = Q at *
  obtain ⟨m, code⟩ := M
  simp only at HN HQ
  go_wp2_with fail
  refine region_tail 4 (by kernel_rfl) (by kernel_rfl) ?_
  simp only [List.take_succ_cons, List.take_zero, List.drop_succ_cons, List.drop_zero]
  repeat still_step
  refine wpStill_nil ?_
  have HLd := Lib.hid (HL.out.on ((Below.refl _ _).drew))
  have HRd := Lib.hid (HR.out.on ((Below.refl _ _).drew))
  clear x0 x1 x2 x3 c0 c1 c2 c3 c4 d0 d1 d2 d3 d4 e0 e1 e2 e3 e4 hlt
  go_wp2_with fail
  refine (HFX.out _ (rows_plcs HLd.out.own)).mono ?_
  rintro e' W3 ⟨rfl, hB3⟩
  have HL3 := Lib.hid (HLd.out.on hB3)
  have HR3 := Lib.hid (HRd.out.on hB3)
  clear hB3 HL HR HLd HRd
  obtain ⟨c0, c1, c2, c3, c4⟩ := HL3.out.b0.c
  obtain ⟨d0, d1, d2, d3, d4⟩ := HL3.out.b1.c
  have e0 := HL3.out.b1.f 0
  have e1 := HL3.out.b1.f 1
  have e2 := HL3.out.b1.f 2
  have e3 := HL3.out.b1.f 3
  have e4 := HL3.out.b1.f 4
  have hlt := HL3.out.b1.lt
  by_cases hF : F < 0
  · have HF := Lib.hid (HL3.out.fin (.int .i64 p.work) (.int .i64 p.give) (.slice pa p.places.length pc) (.slice sa p.slots.length sc) (.slice ga p.grants.length gc))
    go_wp2_with fail
    refine bodyPost_ret (v := .tuple #[.agg #[.int .i64 p.work, .int .i64 p.give, .slice pa p.places.length pc, .slice sa p.slots.length sc, .slice ga p.grants.length gc], .int .i64 10]) (by simp [results, Tryz.results56, go_sem, d0, d1, d2, d3, d4]) rfl ?_
    rw [HQ.out]
    have hc : Pl.none10 F = 10 := by simp [Pl.none10, hF]
    exact ⟨p, _, _, _, by simp [hc, Pl.fst], fun h => absurd h (by simp [hc, Pl.fst]), by simp [Pl.Pol.size], HF.out.1, HF.out.2⟩
  · obtain ⟨ga1, hA1, x1⟩ := HR3.out 1 (by simp)
    cases hA1
    obtain ⟨ga2, hA2, x2⟩ := HR3.out 2 (by simp)
    cases hA2
    simp only [List.getElem_cons_succ, List.getElem_cons_zero] at x1 x2
    go_wp2_with fail
    refine region_tail 4 (by kernel_rfl) (by kernel_rfl) ?_
    simp only [List.take_succ_cons, List.take_zero, List.drop_succ_cons, List.drop_zero]
    repeat still_step
    refine wpStill_nil ?_
    have HL3d := Lib.hid (HL3.out.on ((Below.refl _ _).drew))
    have HR3d := Lib.hid (HR3.out.on ((Below.refl _ _).drew))
    clear x1 x2 c0 c1 c2 c3 c4 d0 d1 d2 d3 d4 e0 e1 e2 e3 e4 hlt
    go_wp2_with fail
    refine (HFY.out _ (rows_plcs HL3d.out.own)).mono ?_
    rintro e' W4 ⟨rfl, hB4⟩
    have HL4 := Lib.hid (HL3d.out.on hB4)
    have HR4 := Lib.hid (HR3d.out.on hB4)
    clear hB4 HL3 HR3 HL3d HR3d
    obtain ⟨c0, c1, c2, c3, c4⟩ := HL4.out.b0.c
    obtain ⟨d0, d1, d2, d3, d4⟩ := HL4.out.b1.c
    have e0 := HL4.out.b1.f 0
    have e1 := HL4.out.b1.f 1
    have e2 := HL4.out.b1.f 2
    have e3 := HL4.out.b1.f 3
    have e4 := HL4.out.b1.f 4
    have hlt := HL4.out.b1.lt
    have hcF : Pl.none10 F = 0 := by simp [Pl.none10, hF]
    by_cases hG : G < 0
    · have HF := Lib.hid (HL4.out.fin (.int .i64 p.work) (.int .i64 p.give) (.slice pa p.places.length pc) (.slice sa p.slots.length sc) (.slice ga p.grants.length gc))
      go_wp2_with fail
      refine bodyPost_ret (v := .tuple #[.agg #[.int .i64 p.work, .int .i64 p.give, .slice pa p.places.length pc, .slice sa p.slots.length sc, .slice ga p.grants.length gc], .int .i64 10]) (by simp [results, Tryz.results56, go_sem, d0, d1, d2, d3, d4]) rfl ?_
      rw [HQ.out]
      have hc : Pl.none10 G = 10 := by simp [Pl.none10, hG]
      exact ⟨p, _, _, _, by simp [hcF, hc, Pl.fst], fun h => absurd h (by simp [hcF, hc, Pl.fst]), by simp [Pl.Pol.size], HF.out.1, HF.out.2⟩
    · have hcG : Pl.none10 G = 0 := by simp [Pl.none10, hG]
      have HCD := Lib.hid (show Pl.fst (Pl.fst (Pl.none10 F) (Pl.none10 G)) code = code by simp [hcF, hcG, Pl.fst])
      obtain ⟨ga3, hA3, x3⟩ := HR4.out 3 (by simp)
      cases hA3
      simp only [List.getElem_cons_succ, List.getElem_cons_zero] at x3
      have hosW := HL4.out.own.og
      have hBW := HL4.out.own.BW
      have HLA := Lib.hid (HL4.out.on ((Below.refl _ _).alloc (Nat.le_refl _) (.cells #[.int .i64 F, .int .i64 G, .int .i64 (m : Int)] 76)))
      clear hcF hcG
      go_wp2_with (first
        | (go_at_call 82; refine (HN.out _).mono ?_; rintro e' w' ⟨rfl, rfl⟩)
        | (at_builtin; refine wpList_append_own _ rfl _ _ 30 rfl B 76 i0 (.agg #[.int .i64 0, .int .i64 0, .int .i64 0]) 3 24 Tryz.underlying30 hi0 hz0 hz1 hz2 rfl (by decide) _ _ _ rfl (hosW.alloc _) ⟨W4.heap.size, 0, none⟩ 1 1 [.int .i64 F, .int .i64 G, .int .i64 (m : Int)] rfl rfl ?c1 ?c2 ?c3 ?c4 ?c5 ?_))
      case c1 =>
        intro q u hq
        match q, hq with
        | 0, hq => simp at hq; subst hq; simp [Addr.add]
        | 1, hq => simp at hq; subst hq; simp [Addr.add]
        | 2, hq => simp at hq; subst hq; simp [Addr.add]
      case c2 => intro u hu; simp at hu; rcases hu with rfl | rfl | rfl <;> rfl
      case c3 => unfold maxLen; omega
      case c4 => omega
      case c5 => simp; omega
      intro v' w1 hown' hgrow _
      obtain ⟨g9, cap9, rfl⟩ := ownsRow_succ hown'
      have hown9 : w1.ownsRow B 76 3 (.slice (some ⟨g9, 0, none⟩) (p.grants.length + 1) cap9) (p.grants.length + 1) (gcs p.grants ++ grnL ⟨F, G, (m : Int)⟩) := hown'
      obtain ⟨P0, P1, BL⟩ := HLA.out.app hgrow (.inr (.inr rfl))
      have HP0 := Lib.hid P0
      have HP1 := Lib.hid P1
      have HBL := Lib.hid BL
      have HRW := Lib.hid (rows_grants HLA.out.own hgrow hown9)
      have HN0 := Lib.hid (show _ ∧ _ ∧ _ from ⟨HL4.out.f0.1, HL4.out.f0.2.1, P0.ne hown' (by decide)⟩)
      have HN1 := Lib.hid (show _ ∧ _ ∧ _ from ⟨HL4.out.f1.1, HL4.out.f1.2.1, P1.ne hown' (by decide)⟩)
      clear hgrow hown' hown9 P0 P1 BL c0 c1 c2 c3 c4 d0 d1 d2 d3 d4 e0 e1 e2 e3 e4 hlt hosW hBW x3
      obtain ⟨c0, c1, c2, c3, c4⟩ := HP0.out.c
      obtain ⟨d0, d1, d2, d3, d4⟩ := HP1.out.c
      have f4 := HP0.out.f 4
      have e0 := HP1.out.f 0
      have e1 := HP1.out.f 1
      have e2 := HP1.out.f 2
      have e3 := HP1.out.f 3
      have e4 := HP1.out.f 4
      have hlb := HP0.out.lt
      have hlt := HP1.out.lt
      go_wp2_with fail
      have z0 := (World.cell?_setCell_other w1 ⟨b, 4, none⟩ ⟨b + 1, 0, none⟩ (.slice (some ⟨g9, 0, none⟩) (p.grants.length + 1) cap9) (fun e => by have := congrArg Addr.block e; simp at this)).trans d0
      have z1 := (World.cell?_setCell_other w1 ⟨b, 4, none⟩ ⟨b + 1, 1, none⟩ (.slice (some ⟨g9, 0, none⟩) (p.grants.length + 1) cap9) (fun e => by have := congrArg Addr.block e; simp at this)).trans d1
      have z2 := (World.cell?_setCell_other w1 ⟨b, 4, none⟩ ⟨b + 1, 2, none⟩ (.slice (some ⟨g9, 0, none⟩) (p.grants.length + 1) cap9) (fun e => by have := congrArg Addr.block e; simp at this)).trans d2
      have z3 := (World.cell?_setCell_other w1 ⟨b, 4, none⟩ ⟨b + 1, 3, none⟩ (.slice (some ⟨g9, 0, none⟩) (p.grants.length + 1) cap9) (fun e => by have := congrArg Addr.block e; simp at this)).trans d3
      have z4 := (World.cell?_setCell_other w1 ⟨b, 4, none⟩ ⟨b + 1, 4, none⟩ (.slice (some ⟨g9, 0, none⟩) (p.grants.length + 1) cap9) (fun e => by have := congrArg Addr.block e; simp at this)).trans d4
      refine bodyPost_ret (v := .tuple #[.agg #[.int .i64 p.work, .int .i64 p.give, .slice pa p.places.length pc, .slice sa p.slots.length sc, .slice (some ⟨g9, 0, none⟩) (p.grants.length + 1) cap9], .int .i64 (code : Int)]) (by simp [results, Tryz.results56, go_sem, z0, z1, z2, z3, z4]) rfl ?_
      rw [HQ.out]
      exact ⟨_, _, _, _, by simp only [HCD.out], fun _ => rfl, Nat.le_refl _, (HRW.out.put HN0.out 4 _).put5 HN1.out _ _ _ _ _, below5 (HBL.out.setCell (p := ⟨b, 4, none⟩) HL4.out.Bb _) (by have := HL4.out.Bb; omega) _ _ _ _ _⟩
end Go.Proofs.YtokljdaofjgihaaGreatDoor
namespace Go.Proofs.YtokljdaofjgihaaGreatDoor
open Go.ChangeShapes Go.WideShapes Go.ChangeAt Go.RowKit

set_option maxRecDepth 100000 in
set_option maxHeartbeats 4000000 in
/-- a line that tells a label -/
theorem line_label (B : Nat) (p : Pl.Pol) (pv sv gv : Value) (A : Option Addr) (c : Nat) (nm lb bt ba : List UInt8) (W : World) (h : ROws W B p pv sv gv) (hr : Reads W A [Pl.wLabel, nm, lb, bt, ba]) (h1 : nm.length ≤ 100000) (h2 : lb.length ≤ 100000) (h3 : bt.length ≤ 100000) (h4 : ba.length ≤ 100000) (hsz : p.size ≤ 99999) :
    Calls Tryz.prog 56 #[.agg #[.int .i64 p.work, .int .i64 p.give, pv, sv, gv], .slice A 5 c] W (LinePost B (Pl.tell p Pl.wLabel [nm, lb, bt, ba]) W) := by
  obtain ⟨pa, pc, sa, sc, ga, gc, rfl, rfl, rfl, hnil⟩ := rows_shape h
  have HL := Lib.hid (LnB.new h)
  have HR := Lib.hid ((hr.on ((Below.refl _ _).alloc (Nat.le_refl _) (.cells #[.int .i64 p.work, .int .i64 p.give, .slice pa p.places.length pc, .slice sa p.slots.length sc, .slice ga p.grants.length gc] 32))).on ((Below.refl _ _).alloc (Nat.le_refl _) (.cells #[.int .i64 0, .int .i64 0, .slice none 0 0, .slice none 0 0, .slice none 0 0] 32)))
  have HQ := Lib.hid (tell_l p nm lb bt ba)
  unfold Pl.Pol.size at hsz
  have HNL := Lib.hid (fun W => rparse_any lb W h2)
  have HN3 := Lib.hid (fun W => rsm_any bt W h3)
  have HN4 := Lib.hid (fun W => rsm64_any ba W h4)
  have hpb := Lat.parse_bound lb
  obtain ⟨i0, hi0, hz0, hz1, hz2⟩ := info_parts info73
  clear h hr
  generalize Lat.parse lb = LP at *
  generalize Pl.num Pl.small bt = NB at *
  generalize Pl.num Pl.most ba = NA at *
  obtain ⟨lv, st, k1⟩ := LP
  obtain ⟨nb, k2⟩ := NB
  obtain ⟨na, k3⟩ := NA
  simp only at HNL HN3 HN4 HQ hpb
  have HPB := Lib.hid hpb
  clear hpb
  go_enter Tryz.func56, Tryz.ntmps56
  go_upto_region 1 with fail
  generalize (W.alloc (.cells #[.int .i64 p.work, .int .i64 p.give, .slice pa p.places.length pc, .slice sa p.slots.length sc, .slice ga p.grants.length gc] 32)).alloc (.cells #[.int .i64 0, .int .i64 0, .slice none 0 0, .slice none 0 0, .slice none 0 0] 32) = W2 at *
  generalize W.heap.size = b at *
  obtain ⟨g, hA, x0⟩ := HR.out 0 (by simp)
  subst hA
  simp only [List.getElem_cons_zero] at x0
  rw [show ofL Pl.wLabel = (⟨#[108, 97, 98, 101, 108]⟩ : ByteArray) from rfl] at x0
  obtain ⟨c0, c1, c2, c3, c4⟩ := HL.out.b0.c
  obtain ⟨d0, d1, d2, d3, d4⟩ := HL.out.b1.c
  have e0 := HL.out.b1.f 0
  have e1 := HL.out.b1.f 1
  have e2 := HL.out.b1.f 2
  have e3 := HL.out.b1.f 3
  have e4 := HL.out.b1.f 4
  have hlt := HL.out.b1.lt
  obtain ⟨g', hA', x1⟩ := HR.out 1 (by simp)
  cases hA'
  simp only [List.getElem_cons_succ, List.getElem_cons_zero] at x1
  obtain ⟨g', hA', x2⟩ := HR.out 2 (by simp)
  cases hA'
  simp only [List.getElem_cons_succ, List.getElem_cons_zero] at x2
  obtain ⟨g', hA', x3⟩ := HR.out 3 (by simp)
  cases hA'
  simp only [List.getElem_cons_succ, List.getElem_cons_zero] at x3
  obtain ⟨g', hA', x4⟩ := HR.out 4 (by simp)
  cases hA'
  simp only [List.getElem_cons_succ, List.getElem_cons_zero] at x4
  generalize Pl.tell p Pl.wLabel [nm, lb, bt, ba] = Q at *
  go_wp2_with fail
  refine (HNL.out _).mono ?_
  rintro e' W3 ⟨rfl, hB3⟩
  have hal : Below W3.heap.size W3 (W3.alloc (.cells #[.int .u8 (lv : Int), .int .u32 (st : Int)] 70)) := (Below.refl _ _).alloc (Nat.le_refl _) _
  have HL3 := Lib.hid ((HL.out.on hB3).on hal)
  have HR3 := Lib.hid ((HR.out.on hB3).on hal)
  have HBL1 := Lib.hid (show (W3.alloc (.cells #[.int .u8 (lv : Int), .int .u32 (st : Int)] 70)).heap[W3.heap.size]? = some (.cells #[.int .u8 (lv : Int), .int .u32 (st : Int)] 70 (0, 0)) from heap_alloc_new W3 _)
  clear hB3 hal HL HR x0 x1 x2 x3 x4 c0 c1 c2 c3 c4 d0 d1 d2 d3 d4 e0 e1 e2 e3 e4 hlt
  go_upto_region 21 with fail
  generalize W3.alloc (.cells #[.int .u8 (lv : Int), .int .u32 (st : Int)] 70) = W4 at *
  generalize W3.heap.size = bl at *
  obtain ⟨c0, c1, c2, c3, c4⟩ := HL3.out.b0.c
  obtain ⟨d0, d1, d2, d3, d4⟩ := HL3.out.b1.c
  have e0 := HL3.out.b1.f 0
  have e1 := HL3.out.b1.f 1
  have e2 := HL3.out.b1.f 2
  have e3 := HL3.out.b1.f 3
  have e4 := HL3.out.b1.f 4
  have hlt := HL3.out.b1.lt
  by_cases hk1 : k1 = 0
  · subst hk1
    obtain ⟨ga3, hA3, x3⟩ := HR3.out 3 (by simp)
    cases hA3
    simp only [List.getElem_cons_succ, List.getElem_cons_zero] at x3
    by_cases hk2 : k2 = 0
    · subst hk2
      have HCD := Lib.hid (show Pl.fst (Pl.fst 0 0) k3 = k3 by simp [Pl.fst])
      obtain ⟨ga4, hA4, x4⟩ := HR3.out 4 (by simp)
      cases hA4
      obtain ⟨ga1, hA1, x1⟩ := HR3.out 1 (by simp)
      cases hA1
      simp only [List.getElem_cons_succ, List.getElem_cons_zero] at x1 x4
      have hbl0 : W4.cell? ⟨bl, 0, none⟩ = some (.int .u8 (lv : Int)) := by simp [World.cell?, HBL1.out]
      have hbl1 : W4.cell? ⟨bl, 1, none⟩ = some (.int .u32 (st : Int)) := by simp [World.cell?, HBL1.out]
      have hosW := HL3.out.own.op
      have hBW := HL3.out.own.BW
      have HLA := Lib.hid ((HL3.out.on ((Below.refl _ _).alloc (Nat.le_refl _) (.cells #[.string (ofL nm), .int .u8 (lv : Int), .int .u32 (st : Int), .int .i64 (nb : Int), .int .u64 (na : Int)] 73))))
      go_wp2_with (first
        | (go_at_call 82; refine (HN3.out _).mono ?_; rintro e' w' ⟨rfl, rfl⟩)
        | (go_at_call 84; refine (HN4.out _).mono ?_; rintro e' w' ⟨rfl, rfl⟩))
      have blt := HL3.out.b0.lt
      go_region_law (first
        | (refine step_append_lies _ (by rfl) _ _ _ (by rfl) B 73 i0 _ 5 40 Tryz.underlying29 hi0 hz0 hz1 hz2 rfl (by omega) (.slice pa p.places.length pc) p.places.length (pcs p.places) (by rfl) ((hosW.alloc _).drew) ⟨W4.heap.size, 0, none⟩ 1 1 [.string (ofL nm), .int .u8 (lv : Int), .int .u32 (st : Int), .int .i64 (nb : Int), .int .u64 (na : Int)] (by rfl) (by rfl) (World.news_of_block (cs := #[.string (ofL nm), .int .u8 (lv : Int), .int .u32 (st : Int), .int .i64 (nb : Int), .int .u64 (na : Int)]) (t := 73) (fr := (0, 0)) (heap_alloc_new W4 _)) (by simp [Value.oneCell']) (by omega) (by unfold maxLen; omega) (by omega) (by simp; omega) (W4.heap.size + 1) (by simp) ?_; intro gg cap w1 hown1 hgrow hat hlt9; have hg9 := undrew hgrow; obtain ⟨P0, P1, BL⟩ := HLA.out.app hg9 (.inl rfl); have HP0 := Lib.hid P0; have HP1 := Lib.hid P1; have HBL := Lib.hid BL; have HG := Lib.hid hg9; have HO := Lib.hid hown1; obtain ⟨w0, w1', w2', w3', w4'⟩ := P0.c; have kf2 := P0.f 2; have klt := P0.lt; clear hgrow hown1 hat hlt9 hg9 P0 P1 BL))
      all_goals
        have hown9 : w1.ownsRow B 73 5 (.slice (some ⟨gg, 0, none⟩) (p.places.length + 1) cap) (p.places.length + 1) (pcs p.places ++ plcL ⟨nm, lv, st, (nb : Int), na⟩) := HO.out
        have HRW := Lib.hid (rows_places (x := ⟨nm, lv, st, (nb : Int), na⟩) HLA.out.own ⟨h1, HPB.out.2.1⟩ HG.out hown9)
        have HN0 := Lib.hid (show _ ∧ _ ∧ _ from ⟨HP0.out.ne hown9 (by decide), HL3.out.f0.2.1, HL3.out.f0.2.2⟩)
        have HN1 := Lib.hid (show _ ∧ _ ∧ _ from ⟨HP1.out.ne hown9 (by decide), HL3.out.f1.2.1, HL3.out.f1.2.2⟩)
        clear hown9 c0 c1 c2 c3 c4 d0 d1 d2 d3 d4 e0 e1 e2 e3 e4 hlt hosW hBW x1 x3 x4 hbl0 hbl1
        obtain ⟨d0, d1, d2, d3, d4⟩ := HP1.out.c
        have e0 := HP1.out.f 0
        have e1 := HP1.out.f 1
        have e2 := HP1.out.f 2
        have e3 := HP1.out.f 3
        have e4 := HP1.out.f 4
        have hlt := HP1.out.lt
        go_wp2_with fail
        have z0 := (World.cell?_setCell_other w1 ⟨b, 2, none⟩ ⟨b + 1, 0, none⟩ (.slice (some ⟨gg, 0, none⟩) (p.places.length + 1) cap) (fun e => by have := congrArg Addr.block e; simp at this)).trans d0
        have z1 := (World.cell?_setCell_other w1 ⟨b, 2, none⟩ ⟨b + 1, 1, none⟩ (.slice (some ⟨gg, 0, none⟩) (p.places.length + 1) cap) (fun e => by have := congrArg Addr.block e; simp at this)).trans d1
        have z2 := (World.cell?_setCell_other w1 ⟨b, 2, none⟩ ⟨b + 1, 2, none⟩ (.slice (some ⟨gg, 0, none⟩) (p.places.length + 1) cap) (fun e => by have := congrArg Addr.block e; simp at this)).trans d2
        have z3 := (World.cell?_setCell_other w1 ⟨b, 2, none⟩ ⟨b + 1, 3, none⟩ (.slice (some ⟨gg, 0, none⟩) (p.places.length + 1) cap) (fun e => by have := congrArg Addr.block e; simp at this)).trans d3
        have z4 := (World.cell?_setCell_other w1 ⟨b, 2, none⟩ ⟨b + 1, 4, none⟩ (.slice (some ⟨gg, 0, none⟩) (p.places.length + 1) cap) (fun e => by have := congrArg Addr.block e; simp at this)).trans d4
        refine bodyPost_ret (v := .tuple #[.agg #[.int .i64 p.work, .int .i64 p.give, .slice (some ⟨gg, 0, none⟩) (p.places.length + 1) cap, .slice sa p.slots.length sc, .slice ga p.grants.length gc], .int .i64 (k3 : Int)]) (by simp [results, Tryz.results56, go_sem, z0, z1, z2, z3, z4]) rfl ?_
        rw [HQ.out]
        exact ⟨_, _, _, _, by simp only [HCD.out], fun _ => rfl, Nat.le_refl _, (HRW.out.put HN0.out 2 _).put5 HN1.out _ _ _ _ _, below5 (HBL.out.setCell (p := ⟨b, 2, none⟩) HL3.out.Bb _) (by have := HL3.out.Bb; omega) _ _ _ _ _⟩
    · have hk2' : ¬ (k2 : Int) = 0 := by omega
      have HF := Lib.hid (HL3.out.fin (.int .i64 p.work) (.int .i64 p.give) (.slice pa p.places.length pc) (.slice sa p.slots.length sc) (.slice ga p.grants.length gc))
      go_wp2_with (go_at_call 82; refine (HN3.out _).mono ?_; rintro e' w' ⟨rfl, rfl⟩)
      refine bodyPost_ret (v := .tuple #[.agg #[.int .i64 p.work, .int .i64 p.give, .slice pa p.places.length pc, .slice sa p.slots.length sc, .slice ga p.grants.length gc], .int .i64 (k2 : Int)]) (by simp [results, Tryz.results56, go_sem, d0, d1, d2, d3, d4]) rfl ?_
      rw [HQ.out]
      exact ⟨p, _, _, _, by simp [hk2, Pl.fst], fun h => absurd h (by simp [hk2, Pl.fst]), by simp [Pl.Pol.size], HF.out.1, HF.out.2⟩
  · have hk1' : ¬ (k1 : Int) = 0 := by omega
    have HF := Lib.hid (HL3.out.fin (.int .i64 p.work) (.int .i64 p.give) (.slice pa p.places.length pc) (.slice sa p.slots.length sc) (.slice ga p.grants.length gc))
    go_wp2_with fail
    refine bodyPost_ret (v := .tuple #[.agg #[.int .i64 p.work, .int .i64 p.give, .slice pa p.places.length pc, .slice sa p.slots.length sc, .slice ga p.grants.length gc], .int .i64 (k1 : Int)]) (by simp [results, Tryz.results56, go_sem, d0, d1, d2, d3, d4]) rfl ?_
    rw [HQ.out]
    exact ⟨p, _, _, _, by simp [hk1, Pl.fst], fun h => absurd h (by simp [hk1, Pl.fst]), by simp [Pl.Pol.size], HF.out.1, HF.out.2⟩
end Go.Proofs.YtokljdaofjgihaaGreatDoor
namespace Go.Proofs.YtokljdaofjgihaaGreatDoor
open Go.ChangeShapes Go.WideShapes Go.ChangeAt Go.RowKit

theorem one_of {α : Type} {r : List α} (h : r.length + 1 = 2) : ∃ x, r = [x] := by
  match r, h with
  | [x], _ => exact ⟨x, rfl⟩
theorem three_of {α : Type} {r : List α} (h : r.length + 1 = 4) : ∃ x y z, r = [x, y, z] := by
  match r, h with
  | [x, y, z], _ => exact ⟨x, y, z, rfl⟩
theorem four_of {α : Type} {r : List α} (h : r.length + 1 = 5) : ∃ x y z u, r = [x, y, z, u] := by
  match r, h with
  | [x, y, z, u], _ => exact ⟨x, y, z, u, rfl⟩
theorem rline_any (B : Nat) (p : Pl.Pol) (pv sv gv : Value) (A : Option Addr) (c : Nat) (f : List UInt8) (r : List (List UInt8)) (W : World) (h : ROws W B p pv sv gv) (hr : Reads W A (f :: r)) (hl : r.length ≤ 100000) (hx : ∀ x ∈ r, x.length ≤ 100000) (hsz : p.size ≤ 99999) :
    Calls Tryz.prog 56 #[.agg #[.int .i64 p.work, .int .i64 p.give, pv, sv, gv], .slice A (r.length + 1) c] W (LinePost B (Pl.lineV p f r) W) := by
  unfold Pl.lineV
  by_cases hb : r.length + 1 ≠ Pl.asked f
  · rw [if_pos hb]
    exact line_bad B p pv sv gv A c f r W h hr hl hb
  · rw [if_neg hb]
    have hb' : r.length + 1 = Pl.asked f := by omega
    by_cases h1 : f = Pl.wWork
    · subst h1
      obtain ⟨x, rfl⟩ := one_of hb'
      exact line_work B p pv sv gv A c x W h hr (hx x (by simp))
    by_cases h2 : f = Pl.wGive
    · subst h2
      obtain ⟨x, rfl⟩ := one_of hb'
      exact line_give B p pv sv gv A c x W h hr (hx x (by simp))
    by_cases h3 : f = Pl.wSlot
    · subst h3
      obtain ⟨x, rfl⟩ := one_of hb'
      exact line_slot B p pv sv gv A c x W h hr (hx x (by simp)) hsz
    by_cases h4 : f = Pl.wGrant
    · subst h4
      obtain ⟨x, y, u, rfl⟩ := three_of hb'
      exact line_grant B p pv sv gv A c x y u W h hr (hx x (by simp)) (hx y (by simp)) (hx u (by simp)) hsz
    by_cases h5 : f = Pl.wLabel
    · subst h5
      obtain ⟨x, y, z, u, rfl⟩ := four_of hb'
      exact line_label B p pv sv gv A c x y z u W h hr (hx x (by simp)) (hx y (by simp)) (hx z (by simp)) (hx u (by simp)) hsz
    · rw [askedNone h1 h2 h3 h4 h5] at hb'
      omega
end Go.Proofs.YtokljdaofjgihaaGreatDoor
namespace Go.Proofs.YtokljdaofjgihaaGreatDoor
open Go.ChangeShapes Go.WideShapes Go.ChangeAt Go.RowKit

theorem lines_len : ∀ (l : List UInt8), ∀ x ∈ Pl.lines l, x.length ≤ l.length
  | [], x, hx => by simp [Pl.lines] at hx; subst hx; simp
  | b :: l, x, hx => by
    by_cases hb : b = 10
    · subst hb
      rw [Pl.lines_feed] at hx
      rcases List.mem_cons.1 hx with rfl | hx
      · simp
      · have := lines_len l x hx; simp; omega
    · obtain ⟨h, t, e1, e2⟩ := Pl.lines_other hb l
      rw [e2] at hx
      rcases List.mem_cons.1 hx with rfl | hx
      · have := lines_len l h (by rw [e1]; simp); simp; omega
      · have := lines_len l x (by rw [e1]; simp [hx]); simp; omega
theorem lines_count : ∀ (l : List UInt8), (Pl.lines l).length ≤ l.length + 1
  | [] => by simp [Pl.lines]
  | b :: l => by
    by_cases hb : b = 10
    · subst hb; rw [Pl.lines_feed]; have := lines_count l; simp; omega
    · obtain ⟨h, t, e1, e2⟩ := Pl.lines_other hb l
      have := lines_count l
      rw [e1] at this
      rw [e2]
      simp at this ⊢
      omega
theorem cell5_put {W : World} {q : Nat} {x0 x1 x2 x3 x4 : Value} (h : Cell5 W q x0 x1 x2 x3 x4) (v0 v1 v2 v3 v4 : Value) :
    Cell5 (((((W.setCell ⟨q, 0, none⟩ v0).setCell ⟨q, 1, none⟩ v1).setCell ⟨q, 2, none⟩ v2).setCell ⟨q, 3, none⟩ v3).setCell ⟨q, 4, none⟩ v4) q v0 v1 v2 v3 v4 := by
  have ne : ∀ i j, i ≠ j → (⟨q, j, none⟩ : Addr) ≠ ⟨q, i, none⟩ := fun i j hij e => hij (by simpa using (congrArg Addr.off e).symm)
  have o := fun (X : World) (i j : Nat) (hij : i ≠ j) (v : Value) => World.cell?_setCell_other X ⟨q, i, none⟩ ⟨q, j, none⟩ v (ne_at q i j hij)
  refine ⟨?_, ?_, ?_, ?_, ?_⟩
  · rw [o _ 4 0 (by decide), o _ 3 0 (by decide), o _ 2 0 (by decide), o _ 1 0 (by decide)]
    exact World.cell?_setCell_same' _ _ _ (by rw [h.c0]; rfl)
  · rw [o _ 4 1 (by decide), o _ 3 1 (by decide), o _ 2 1 (by decide)]
    exact World.cell?_setCell_same' _ _ _ (by rw [o _ 0 1 (by decide), h.c1]; rfl)
  · rw [o _ 4 2 (by decide), o _ 3 2 (by decide)]
    exact World.cell?_setCell_same' _ _ _ (by rw [o _ 1 2 (by decide), o _ 0 2 (by decide), h.c2]; rfl)
  · rw [o _ 4 3 (by decide)]
    exact World.cell?_setCell_same' _ _ _ (by rw [o _ 2 3 (by decide), o _ 1 3 (by decide), o _ 0 3 (by decide), h.c3]; rfl)
  · exact World.cell?_setCell_same' _ _ _ (by rw [o _ 3 4 (by decide), o _ 2 4 (by decide), o _ 1 4 (by decide), o _ 0 4 (by decide), h.c4]; rfl)
theorem Box5.put {W : World} {q : Nat} {x0 x1 x2 x3 x4 : Value} (h : Box5 W q x0 x1 x2 x3 x4) (v0 v1 v2 v3 v4 : Value) :
    Box5 (((((W.setCell ⟨q, 0, none⟩ v0).setCell ⟨q, 1, none⟩ v1).setCell ⟨q, 2, none⟩ v2).setCell ⟨q, 3, none⟩ v3).setCell ⟨q, 4, none⟩ v4) q v0 v1 v2 v3 v4 :=
  ⟨cell5_put h.c v0 v1 v2 v3 v4, fun j => by simp only [World.frozen?_setCell]; exact h.f j⟩
theorem only5 (W : World) (q : Nat) (v0 v1 v2 v3 v4 : Value) : W.grownBy (((((W.setCell ⟨q, 0, none⟩ v0).setCell ⟨q, 1, none⟩ v1).setCell ⟨q, 2, none⟩ v2).setCell ⟨q, 3, none⟩ v3).setCell ⟨q, 4, none⟩ v4) (some q) :=
  only_setCell (only_setCell (only_setCell (only_setCell (only_set W q 0 v0) (p := ⟨q, 1, none⟩) rfl v1) (p := ⟨q, 2, none⟩) rfl v2) (p := ⟨q, 3, none⟩) rfl v3) (p := ⟨q, 4, none⟩) rfl v4
/-- what is read of a text, by the document -/
def RParPost (q : Pl.Pol × Nat × Nat) (W : World) (e : Ending) (W' : World) : Prop :=
  ∃ pa pc sa sc ga gc, e = .returned (.tuple #[polV q.1 pa pc sa sc ga gc, .int .i64 (q.2.1 : Int), .int .i64 (q.2.2 : Int)]) ∧ PolIs W' q.1 pa pc sa sc ga gc ∧ Below W.heap.size W W'
/-- while the lines are gone through -/
structure RPs (ls : List (List UInt8)) (R : Pl.Pol × Nat × Nat) (w W1 : World) (A : Option Addr) (k : Nat) (p : Pl.Pol) (pv sv gv : Value) (W : World) : Prop where
  run : Pl.run (ls.drop k) (k + 1) p = R
  sz : p.size ≤ k
  own : ROws W W1.heap.size p pv sv gv
  b5 : Box5 W (w.heap.size + 1) (.int .i64 p.work) (.int .i64 p.give) pv sv gv
  b2 : Box5 W w.heap.size (.int .i64 0) (.int .i64 0) (.slice none 0 0) (.slice none 0 0) (.slice none 0 0)
  rd : ∀ (j : Nat) (h : j < ls.length), ∃ g, A = some ⟨g, 0, none⟩ ∧ g < W1.heap.size ∧ w.heap.size + 1 < g ∧ W.cell? ⟨g, j, none⟩ = some (.string (ofL ls[j]))
  lt : w.heap.size + 1 < W1.heap.size
  bel : Below w.heap.size w W
theorem RPs.on {ls : List (List UInt8)} {R : Pl.Pol × Nat × Nat} {w W1 : World} {A : Option Addr} {k : Nat} {p : Pl.Pol} {pv sv gv : Value} {W W' : World} (h : RPs ls R w W1 A k p pv sv gv W) (hb : Below W.heap.size W W') : RPs ls R w W1 A k p pv sv gv W' :=
  ⟨h.run, h.sz, h.own.on hb, h.b5.below hb h.b5.c.lt, h.b2.below hb h.b2.c.lt, fun j hj => by
    obtain ⟨g, e, h1, h2, hc⟩ := h.rd j hj
    exact ⟨g, e, h1, h2, (hb.cell (p := ⟨g, j, none⟩) (World.block_lt_of_cell? W _ hc)).trans hc⟩, h.lt, bthen h.bel hb (Nat.le_refl _)⟩
/-- the next line, whatever it told -/
theorem RPs.next {ls : List (List UInt8)} {R : Pl.Pol × Nat × Nat} {w W1 : World} {A : Option Addr} {k : Nat} {p p' : Pl.Pol} {pv sv gv pv' sv' gv' : Value} {W W' : World} (h : RPs ls R w W1 A k p pv sv gv W) (hk : k < ls.length) (hp : Pl.take p ls[k] = (0, p'))
    (hO : ROws W' W1.heap.size p' pv' sv' gv') (hb : Below W1.heap.size W W') (t : TypeId) :
    RPs ls R w W1 A (k + 1) p' pv' sv' gv' ((((((W'.alloc (.cells #[.int .i64 p'.work, .int .i64 p'.give, pv', sv', gv'] t)).setCell ⟨w.heap.size + 1, 0, none⟩ (.int .i64 p'.work)).setCell ⟨w.heap.size + 1, 1, none⟩ (.int .i64 p'.give)).setCell ⟨w.heap.size + 1, 2, none⟩ pv').setCell ⟨w.heap.size + 1, 3, none⟩ sv').setCell ⟨w.heap.size + 1, 4, none⟩ gv') := by
  have hal : Below W'.heap.size W' (W'.alloc (.cells #[.int .i64 p'.work, .int .i64 p'.give, pv', sv', gv'] t)) := (Below.refl _ _).alloc (Nat.le_refl _) _
  have hO2 := hO.on hal
  have hb2 : Below W1.heap.size W (W'.alloc (.cells #[.int .i64 p'.work, .int .i64 p'.give, pv', sv', gv'] t)) := hb.trans (hal.mono hO.BW)
  have h5 := h.b5.below hb2 h.lt
  have h2 := h.b2.below hb2 (by have := h.lt; omega)
  have g5 := only5 (W'.alloc (.cells #[.int .i64 p'.work, .int .i64 p'.give, pv', sv', gv'] t)) (w.heap.size + 1) (.int .i64 p'.work) (.int .i64 p'.give) pv' sv' gv'
  have hlt := h.lt
  have hne : some w.heap.size ≠ some (w.heap.size + 1) := by simp
  refine ⟨?_, ?_, hO2.kept g5 (own_row hO2.op hlt) (own_row hO2.os hlt) (own_row hO2.og hlt), h5.put _ _ _ _ _, ⟨⟨g5.cell h2.c.c0 hne, g5.cell h2.c.c1 hne, g5.cell h2.c.c2 hne, g5.cell h2.c.c3 hne, g5.cell h2.c.c4 hne⟩, fun j => ?_⟩, fun j hj => ?_, hlt, ?_⟩
  · have := h.run
    rw [List.drop_eq_getElem_cons hk, Pl.run_ok (by rw [hp])] at this
    rw [hp] at this
    exact this
  · have h1 := Pl.take_size p ls[k]
    rw [hp] at h1
    have := h.sz
    simp only at h1
    omega
  · exact (World.frozen?_of_block (a := ⟨w.heap.size, j, none⟩) (g5.block w.heap.size h2.c.lt hne)).trans (h2.f j)
  · obtain ⟨g, e, h1, h3, hc⟩ := h.rd j hj
    refine ⟨g, e, h1, h3, ?_⟩
    have hc2 := (hb2.cell (p := ⟨g, j, none⟩) h1).trans hc
    exact g5.cell hc2 (by simp; omega)
  · exact below5 ((h.bel.trans (hb2.mono (by omega)))) (by omega) _ _ _ _ _
theorem RPs.skip {ls : List (List UInt8)} {R : Pl.Pol × Nat × Nat} {w W1 : World} {A : Option Addr} {k : Nat} {p : Pl.Pol} {pv sv gv : Value} {W : World} (h : RPs ls R w W1 A k p pv sv gv W) (hk : k < ls.length) (hp : Pl.take p ls[k] = (0, p)) : RPs ls R w W1 A (k + 1) p pv sv gv W :=
  ⟨by
    have := h.run
    rw [List.drop_eq_getElem_cons hk, Pl.run_ok (by rw [hp])] at this
    rw [hp] at this
    exact this, Nat.le_succ_of_le h.sz, h.own, h.b5, h.b2, h.rd, h.lt, h.bel⟩
theorem rtake_words {p : Pl.Pol} {x f : List UInt8} {r : List (List UInt8)} (hw : Pl.wds x = f :: r) (h : ¬ f.head? = some 35) : Pl.take p x = Pl.lineV p f r := by
  unfold Pl.take Pl.lineV
  rw [hw]
  simp only
  rw [if_neg h]
theorem rtake_rem {p : Pl.Pol} {x f : List UInt8} {r : List (List UInt8)} (hw : Pl.wds x = f :: r) (h : f.head? = some 35) : Pl.take p x = (0, p) := by
  unfold Pl.take
  rw [hw]
  simp only
  rw [if_pos h]
theorem rtake_none {p : Pl.Pol} {x : List UInt8} (hw : Pl.wds x = []) : Pl.take p x = (0, p) := by unfold Pl.take; rw [hw]
theorem rows_pol {W : World} {B : Nat} {p : Pl.Pol} {pv sv gv : Value} (h : ROws W B p pv sv gv) (hs : p.size ≤ 99999) :
    ∃ pa pc sa sc ga gc, pv = .slice pa p.places.length pc ∧ sv = .slice sa p.slots.length sc ∧ gv = .slice ga p.grants.length gc ∧ PolIs W p pa pc sa sc ga gc := by
  obtain ⟨pa, pc, h1, h2, -, h3⟩ := rown_plcs h.op h.fits
  obtain ⟨sa, sc, k1, k2, -, k3⟩ := own_ints h.os
  obtain ⟨ga, gc, g1, g2, -, g3⟩ := rown_grns h.og
  unfold Pl.Pol.size at hs
  exact ⟨pa, pc, sa, sc, ga, gc, h1, k1, g1, h3, k3, g3, by omega, by omega, by omega, h2, k2, g2⟩
set_option maxRecDepth 100000 in
set_option maxHeartbeats 8000000 in
theorem rpol_any (l : List UInt8) (w : World) (hl : l.length ≤ 90000) : Calls Tryz.prog 20 #[.string (ofL l)] w (RParPost (Pl.parse l) w) := by
  have HLN := Lib.hid (fun W => rlines_any l W (by omega))
  have HLL := Lib.hid (lines_len l)
  have hlc := lines_count l
  have HPR := Lib.hid (show Pl.run ((Pl.lines l).drop 0) (0 + 1) Pl.Pol.zero = Pl.parse l from rfl)
  have hs1 : Below w.heap.size w (w.alloc (.cells #[.int .i64 0, .int .i64 0, .slice none 0 0, .slice none 0 0, .slice none 0 0] 32)) := (Below.refl _ _).alloc (Nat.le_refl _) _
  have hs2 : Below (w.alloc (.cells #[.int .i64 0, .int .i64 0, .slice none 0 0, .slice none 0 0, .slice none 0 0] 32)).heap.size (w.alloc (.cells #[.int .i64 0, .int .i64 0, .slice none 0 0, .slice none 0 0, .slice none 0 0] 32)) ((w.alloc (.cells #[.int .i64 0, .int .i64 0, .slice none 0 0, .slice none 0 0, .slice none 0 0] 32)).alloc (.cells #[.int .i64 0, .int .i64 0, .slice none 0 0, .slice none 0 0, .slice none 0 0] 32)) := (Below.refl _ _).alloc (Nat.le_refl _) _
  have HB2 := Lib.hid ((Box5.new w (.int .i64 0) (.int .i64 0) (.slice none 0 0) (.slice none 0 0) (.slice none 0 0) 32).below hs2 (by simp))
  have hb5 := Box5.new (w.alloc (.cells #[.int .i64 0, .int .i64 0, .slice none 0 0, .slice none 0 0, .slice none 0 0] 32)) (.int .i64 0) (.int .i64 0) (.slice none 0 0) (.slice none 0 0) (.slice none 0 0) 32
  rw [World.size_alloc] at hb5
  have HB5 := Lib.hid hb5
  have HBL := Lib.hid (bthen hs1 hs2 (Nat.le_refl _))
  clear hs1 hs2 hb5
  generalize Pl.parse l = R at *
  generalize Pl.lines l = ls at *
  go_enter Tryz.func20, Tryz.ntmps20
  go_wp2_with fail
  generalize (w.alloc (.cells #[.int .i64 0, .int .i64 0, .slice none 0 0, .slice none 0 0, .slice none 0 0] 32)).alloc (.cells #[.int .i64 0, .int .i64 0, .slice none 0 0, .slice none 0 0, .slice none 0 0] 32) = W0 at *
  refine (HLN.out _).mono ?_
  rintro e W1 ⟨v, rfl, hown, hB1⟩
  obtain ⟨A, cA, rfl, -, hsh⟩ := row_shape hown
  have hlt5 := HB5.out.c.lt
  have HST := Lib.hid (show RPs ls R w W1 A 0 Pl.Pol.zero (.slice none 0 0) (.slice none 0 0) (.slice none 0 0) W1 from
    ⟨HPR.out, by simp [Pl.Pol.size, Pl.Pol.zero], ⟨World.ownsRow_nil _ _ _ _, World.ownsRow_nil _ _ _ _, World.ownsRow_nil _ _ _ _, Nat.le_refl _, fun i hi => absurd hi (by simp [Pl.Pol.zero])⟩, HB5.out.below hB1 hlt5, HB2.out.below hB1 (by omega), fun j hj => by
      obtain ⟨g, e1, e2, e3, e4⟩ := hsh j hj
      exact ⟨g, e1, e3, by omega, e4.trans (strs_get ls j hj)⟩, by have := hB1.size; omega, bthen HBL.out hB1 (Nat.le_refl _)⟩)
  clear hown hsh hB1 hlt5
  go_wp2_with fail
  go_loopg [15] ls.length (fun g i wr => ∃ (k : Nat) (p : Pl.Pol) (pv sv gv : Value), k + g = ls.length ∧ i = .int .i64 (k : Int) ∧ RPs ls R w W1 A k p pv sv gv wr)
  case atStart => exact ⟨0, _, _, _, _, by omega, rfl, HST.out⟩
  case round =>
    obtain ⟨k, p, pv, sv, gv, hk, rfl, hS⟩ := hrel
    have HS := Lib.hid hS
    have HK := Lib.hid hk
    clear hk
    obtain ⟨pa, pc, sa, sc, ga, gc, rfl, rfl, rfl, -⟩ := rows_shape hS.own
    by_cases hlt : k < ls.length
    · obtain ⟨g, hA, hg1, hg2, hc⟩ := hS.rd k hlt
      subst hA
      have HSK := Lib.hid (fun W (h : RPs ls R w W1 (some ⟨g, 0, none⟩) k p (.slice pa p.places.length pc) (.slice sa p.slots.length sc) (.slice ga p.grants.length gc) W) (ht : Pl.take p ls[k] = (0, p)) => h.skip hlt ht)
      have HNX := Lib.hid (fun W W' p' pv' sv' gv' (h : RPs ls R w W1 (some ⟨g, 0, none⟩) k p (.slice pa p.places.length pc) (.slice sa p.slots.length sc) (.slice ga p.grants.length gc) W) (ht : Pl.take p ls[k] = (0, p')) hO hb => h.next (p' := p') (pv' := pv') (sv' := sv') (gv' := gv') (W' := W') hlt ht hO hb 32)
      have HBD := Lib.hid (show (Pl.take p ls[k]).1 ≠ 0 → R = (Pl.Pol.zero, k + 1, (Pl.take p ls[k]).1) from fun h => by
        have := hS.run
        rw [List.drop_eq_getElem_cons hlt, Pl.run_bad h] at this
        exact this.symm)
      have hxl := HLL.out _ (List.getElem_mem hlt)
      have HWD := Lib.hid (rwords_any ls[k] wr (by omega))
      have HWL := Lib.hid (show ∀ y ∈ Pl.wds ls[k], y.length ≤ ls[k].length from fun y hy => by have := Pl.wds_len ls[k] [] y hy; simpa using this)
      have HWC := Lib.hid (show (Pl.wdsFrom [] ls[k]).length ≤ ls[k].length by have := Pl.wds_count ls[k] []; simpa using this)
      have HWN := Lib.hid (show ∀ y ∈ Pl.wds ls[k], y ≠ [] from fun y hy => Pl.wds_ne ls[k] [] y hy)
      have hpz := hS.sz
      clear hS
      generalize ls[k] = x at *
      go_wp2_with fail
      refine HWD.out.mono ?_
      rintro e W2 ⟨v2, rfl, hown2, hB2⟩
      obtain ⟨A2, c2, rfl, hR2⟩ := reads_own hown2
      have HS2 := Lib.hid (HS.out.on hB2)
      have HR2 := Lib.hid hR2
      clear hown2 hB2 hR2 hc
      cases hw : Pl.wds x with
      | nil =>
        have HT := Lib.hid (rtake_none (p := p) hw)
        have HGO := Lib.hid (HSK.out _ HS2.out HT.out)
        clear hw
        simp only [List.length_nil]
        go_wp2_with fail
        go_roundg (gk - 1)
        case rel => exact ⟨k + 1, _, _, _, _, by have := HK.out; omega, by go_num, HGO.out⟩
        case measure => have := HK.out; omega
      | cons f r =>
        have HWC' : Hid ((Pl.wds x).length ≤ x.length) := HWC.out
        have HWC := HWC'
        clear HWC'
        rw [hw] at HR2 HWL HWC HWN
        have hrl : r.length ≤ 100000 := by have := HWC.out; simp at this; omega
        have hxs : ∀ y ∈ r, y.length ≤ 100000 := fun y hy => by have := HWL.out y (by simp [hy]); omega
        have hfn : f ≠ [] := HWN.out f (by simp)
        have hf0 : 0 < (ofL f).size := by rw [ofL_size]; exact List.length_pos_iff.2 hfn
        obtain ⟨g2, hA2, x0⟩ := HR2.out 0 (by simp)
        simp only [List.getElem_cons_zero] at x0
        subst hA2
        have hlen : ((r.length : Int) + 1 == 0) = false := by rw [beq_eq_false_iff_ne]; omega
        simp only [List.length_cons]
        by_cases h35 : f.head? = some 35
        · have HT := Lib.hid (rtake_rem (p := p) hw h35)
          have HGO := Lib.hid (HSK.out _ HS2.out HT.out)
          have h35' : (((ofL f)[0].toNat : Nat) : Int) = 35 := by
            cases f with
            | nil => exact absurd rfl hfn
            | cons a t => simp at h35; subst h35; rfl
          clear hw h35 hfn hxs hrl
          go_wp2_with fail
          go_roundg (gk - 1)
          case rel => exact ⟨k + 1, _, _, _, _, by have := HK.out; omega, by go_num, HGO.out⟩
          case measure => have := HK.out; omega
        · have HT := Lib.hid (rtake_words (p := p) hw h35)
          have h35' : ¬ (((ofL f)[0].toNat : Nat) : Int) = 35 := by
            cases f with
            | nil => exact absurd rfl hfn
            | cons a t =>
              intro e
              refine h35 ?_
              have : (a.toNat : Int) = 35 := e
              simp
              exact UInt8.toNat_inj.1 (by show a.toNat = 35; omega)
          have HLI := Lib.hid (rline_any W1.heap.size p _ _ _ _ c2 f r W2 HS2.out.own HR2.out hrl hxs (by omega))
          obtain ⟨c0, c1, c2', c3, c4⟩ := HS2.out.b5.c
          clear hw h35 hfn hxs hrl
          go_wp2_with fail
          refine HLI.out.mono ?_
          rintro e W3 ⟨p', pv', sv', gv', rfl, hp', -, hO3, hB3⟩
          obtain ⟨pa', pc', sa', sc', ga', gc', rfl, rfl, rfl, -⟩ := rows_shape hO3
          generalize Pl.lineV p f r = Q at *
          obtain ⟨code, q2⟩ := Q
          simp only at hp' HT
          by_cases hcd : code = 0
          · subst hcd
            obtain rfl := hp' rfl
            have HGO := Lib.hid (HNX.out _ _ _ _ _ _ HS2.out HT.out hO3 hB3)
            have hb5' := HS2.out.b5.below hB3 HS2.out.lt
            have hal : Below W3.heap.size W3 (W3.alloc (.cells #[.int .i64 p'.work, .int .i64 p'.give, .slice pa' p'.places.length pc', .slice sa' p'.slots.length sc', .slice ga' p'.grants.length gc'] 32)) := (Below.refl _ _).alloc (Nat.le_refl _) _
            have hb5 := hb5'.below hal hb5'.c.lt
            have h9 := Cell5.new W3 (.int .i64 p'.work) (.int .i64 p'.give) (.slice pa' p'.places.length pc') (.slice sa' p'.slots.length sc') (.slice ga' p'.grants.length gc') 32
            clear hO3 hB3 c0 c1 c2' c3 c4 x0 hb5' hp' hal
            go_upto_region 8 with fail
            generalize W3.alloc (.cells #[.int .i64 p'.work, .int .i64 p'.give, .slice pa' p'.places.length pc', .slice sa' p'.slots.length sc', .slice ga' p'.grants.length gc'] 32) = W4 at *
            generalize W3.heap.size = b9 at *
            obtain ⟨b0, b1, b2, b3, b4⟩ := hb5.c
            obtain ⟨n0, n1, n2, n3, n4⟩ := h9
            have f0 := hb5.f 0
            have f1 := hb5.f 1
            have f2 := hb5.f 2
            have f3 := hb5.f 3
            have f4 := hb5.f 4
            have hl5 := hb5.c.lt
            clear hb5
            go_wp2_with fail
            go_roundg (gk - 1)
            case rel => exact ⟨k + 1, _, _, _, _, by have := HK.out; omega, by go_num, HGO.out⟩
            case measure => have := HK.out; omega
          · have HR9 := Lib.hid (HBD.out (by rw [HT.out]; exact hcd))
            rw [HT.out] at HR9
            have hcd' : ¬ (code : Int) = 0 := by omega
            have hlt1 := HS2.out.lt
            have hb2' := HS2.out.b2.below hB3 (by omega)
            have hal : Below W3.heap.size W3 (W3.alloc (.cells #[.int .i64 p'.work, .int .i64 p'.give, .slice pa' p'.places.length pc', .slice sa' p'.slots.length sc', .slice ga' p'.grants.length gc'] 32)) := (Below.refl _ _).alloc (Nat.le_refl _) _
            have hb2 := hb2'.below hal hb2'.c.lt
            have HB9 := Lib.hid ((HS2.out.bel.trans (hB3.mono (by omega))).trans (hal.mono (by have := hb2'.c.lt; omega)))
            clear hO3 hB3 c0 c1 c2' c3 c4 x0 hb2' hp' hal hlt1
            go_upto_region 8 with fail
            generalize W3.alloc (.cells #[.int .i64 p'.work, .int .i64 p'.give, .slice pa' p'.places.length pc', .slice sa' p'.slots.length sc', .slice ga' p'.grants.length gc'] 32) = W4 at *
            generalize W3.heap.size = b9 at *
            obtain ⟨b0, b1, b2, b3, b4⟩ := hb2.c
            have f0 := hb2.f 0
            have f1 := hb2.f 1
            have f2 := hb2.f 2
            have f3 := hb2.f 3
            have f4 := hb2.f 4
            have hl2 := hb2.c.lt
            clear hb2
            go_wp2_with fail
            refine bodyPost_ret (v := .tuple #[.agg #[.int .i64 0, .int .i64 0, .slice none 0 0, .slice none 0 0, .slice none 0 0], .int .i64 ((k : Int) + 1), .int .i64 (code : Int)]) (by simp [results, Tryz.results20, go_sem, b0, b1, b2, b3, b4]) rfl ?_
            rw [HR9.out]
            exact ⟨none, 0, none, 0, none, 0, by simp [polV, Pl.Pol.zero], polIs_zero _, below5 HB9.out (Nat.le_refl _) _ _ _ _ _⟩
    · have hkl : k = ls.length := by have := HK.out; omega
      have HR := Lib.hid (show Pl.fin p = R from by have := hS.run; rw [hkl, List.drop_length] at this; exact this)
      have hpz : p.size ≤ 99999 := by have := hS.sz; omega
      obtain ⟨pa0, pc0, sa0, sc0, ga0, gc0, q1, q2, q3, hpi⟩ := rows_pol hS.own hpz
      cases q1
      cases q2
      cases q3
      have HCH := Lib.hid (rcheck_any p pa pc sa sc ga gc wr hpi)
      have HF1 := Lib.hid (fun h => fin_bad (p := p) h)
      have HF2 := Lib.hid (fun h => fin_good (p := p) h)
      obtain ⟨c0, c1, c2, c3, c4⟩ := hS.b5.c
      simp only [polV] at HCH
      generalize Pl.check p = C at *
      clear hpi hS hkl
      by_cases hC : C = 0
      · have HF := Lib.hid ((HF2.out hC).symm.trans HR.out)
        subst hC
        go_wp2_with fail
        (with_reducible refine HCH.out.mono ?_)
        rintro e W5 ⟨rfl, hB5⟩
        have HS5 := Lib.hid (HS.out.on hB5)
        clear hB5 c0 c1 c2 c3 c4
        obtain ⟨c0, c1, c2, c3, c4⟩ := HS5.out.b5.c
        have hb2 := HS5.out.b2
        have hl1 := HS5.out.lt
        obtain ⟨b0, b1, b2, b3, b4⟩ := hb2.c
        have f0 := hb2.f 0
        have f1 := hb2.f 1
        have f2 := hb2.f 2
        have f3 := hb2.f 3
        have f4 := hb2.f 4
        have hl2 := hb2.c.lt
        clear hb2
        go_wp2_with fail
        refine bodyPost_ret (v := .tuple #[.agg #[.int .i64 p.work, .int .i64 p.give, .slice pa p.places.length pc, .slice sa p.slots.length sc, .slice ga p.grants.length gc], .int .i64 0, .int .i64 0]) (by simp [results, Tryz.results20, go_sem, b0, b1, b2, b3, b4]) rfl ?_
        rw [← HF.out]
        have g5 := only5 W5 w.heap.size (.int .i64 p.work) (.int .i64 p.give) (.slice pa p.places.length pc) (.slice sa p.slots.length sc) (.slice ga p.grants.length gc)
        have o5 := HS5.out.own.kept g5 (own_row HS5.out.own.op (by omega)) (own_row HS5.out.own.os (by omega)) (own_row HS5.out.own.og (by omega))
        obtain ⟨pa1, pc1, sa1, sc1, ga1, gc1, r1, r2, r3, hpi1⟩ := rows_pol o5 hpz
        cases r1
        cases r2
        cases r3
        exact ⟨pa, pc, sa, sc, ga, gc, rfl, hpi1, below5 HS5.out.bel (Nat.le_refl _) _ _ _ _ _⟩
      · have HF := Lib.hid ((HF1.out hC).symm.trans HR.out)
        have hC' : ¬ (C : Int) = 0 := by omega
        go_wp2_with fail
        (with_reducible refine HCH.out.mono ?_)
        rintro e W5 ⟨rfl, hB5⟩
        have HS5 := Lib.hid (HS.out.on hB5)
        clear hB5 c0 c1 c2 c3 c4
        have hb2 := HS5.out.b2
        obtain ⟨b0, b1, b2, b3, b4⟩ := hb2.c
        have f0 := hb2.f 0
        have f1 := hb2.f 1
        have f2 := hb2.f 2
        have f3 := hb2.f 3
        have f4 := hb2.f 4
        have hl2 := hb2.c.lt
        clear hb2
        go_wp2_with fail
        refine bodyPost_ret (v := .tuple #[.agg #[.int .i64 0, .int .i64 0, .slice none 0 0, .slice none 0 0, .slice none 0 0], .int .i64 0, .int .i64 (C : Int)]) (by simp [results, Tryz.results20, go_sem, b0, b1, b2, b3, b4]) rfl ?_
        rw [← HF.out]
        exact ⟨none, 0, none, 0, none, 0, by simp [polV, Pl.Pol.zero], polIs_zero _, below5 HS5.out.bel (Nat.le_refl _) _ _ _ _ _⟩
end Go.Proofs.YtokljdaofjgihaaGreatDoor
namespace Go.Proofs.YtokljdaofjgihaaGreatDoor
open Go.ChangeShapes Go.WideShapes Go.ChangeAt Go.RowKit

theorem os_nil {W : World} {B e size n m c : Nat} {A : Option Addr} {xs : List Value} (h : W.ownsRow B e size (.slice A n c) m xs) : A = none → c = 0 := by
  rcases h.2 with ⟨hv, _⟩ | ⟨g, cap, cur, hv, _⟩
  · intro _
    injection hv
  · intro e
    injection hv with e1
    rw [e] at e1
    cases e1
def ParPost2 (q : Pl.Pol × Nat × Nat) (W : World) (e : Ending) (W' : World) : Prop :=
  ∃ pa pc sa sc ga gc, (sa = none → sc = 0) ∧ e = .returned (.tuple #[polV q.1 pa pc sa sc ga gc, .int .i64 (q.2.1 : Int), .int .i64 (q.2.2 : Int)]) ∧ PolIs W' q.1 pa pc sa sc ga gc ∧ Below W.heap.size W W'
set_option maxRecDepth 100000 in
set_option maxHeartbeats 8000000 in
theorem pparse2_any (l : List UInt8) (w : World) (hl : l.length ≤ 90000) (hE : Env w) :
    Calls Tryz.prog 17 #[.string (ofL l)] w (ParPost2 (Pl.parse l) w) := by
  have h1 := hE.len.pos
  obtain ⟨ev, hev, -⟩ := hE.rng
  have h2 := World.block_lt_of_cell? w _ hev
  simp only at h2
  clear hev
  have hs1 : Below w.heap.size w (w.alloc (.cells #[.int .i64 0, .int .i64 0, zs, zs, zs] 26)) := (Below.refl _ _).alloc (Nat.le_refl _) _
  have hs2 : Below (w.alloc (.cells #[.int .i64 0, .int .i64 0, zs, zs, zs] 26)).heap.size (w.alloc (.cells #[.int .i64 0, .int .i64 0, zs, zs, zs] 26)) ((w.alloc (.cells #[.int .i64 0, .int .i64 0, zs, zs, zs] 26)).alloc (.cells #[.int .i64 0, .int .i64 0, zs, zs, zs] 26)) := (Below.refl _ _).alloc (Nat.le_refl _) _
  have HST := Lib.hid (show ParSt l (Pl.parse l) w l.length (.string (ofL l)) (.int .i64 1) ((w.alloc (.cells #[.int .i64 0, .int .i64 0, zs, zs, zs] 26)).alloc (.cells #[.int .i64 0, .int .i64 0, zs, zs, zs] 26)) from by
    refine ⟨l, 1, Pl.Pol.zero, zs, zs, zs, rfl, rfl, rfl, by omega, by omega, by simp [Pl.Pol.size, Pl.Pol.zero], rfl, ?_, (Box5.new w _ _ _ _ _ 26).below hs2 (by simp), (hE.on hs1).on hs2, bthen hs1 hs2 (Nat.le_refl _)⟩
    have hb := Box5.new (w.alloc (.cells #[.int .i64 0, .int .i64 0, zs, zs, zs] 26)) (.int .i64 0) (.int .i64 0) zs zs zs 26
    have e : (w.alloc (.cells #[.int .i64 0, .int .i64 0, zs, zs, zs] 26)).heap.size = w.heap.size + 1 := by simp
    rw [e] at hb
    exact ⟨hb.c, hb.f, World.ownsRow_nil _ _ _ _, World.ownsRow_nil _ _ _ _, World.ownsRow_nil _ _ _ _, by omega, by simp, fun i hi => absurd hi (by simp [Pl.Pol.zero])⟩)
  clear hs1 hs2 hE
  generalize Pl.parse l = R at *
  obtain ⟨n, hn⟩ : ∃ n, n = l.length := ⟨_, rfl⟩
  rw [← hn] at HST
  have HN := Lib.hid hn
  clear hn
  unfold zs at HST
  go_enter Tryz.func17, Tryz.ntmps17
  go_wp2_with fail
  go_loopg [0, 6] n (fun g s a wr => ParSt l R w g s a wr)
  case atStart => exact HST.out
  case round =>
    obtain ⟨m, k, p, pv, sv, gv, hg, rfl, rfl, hk, hkm, hsz, hrun, hO, hbx, hE, hB⟩ := hrel
    have HO := Lib.hid hO
    have HBX := Lib.hid hbx
    have HE := Lib.hid hE
    have HB := Lib.hid hB
    have HR := Lib.hid hrun
    clear hO hbx hE hB hrun
    by_cases hm : m = []
    · subst hm
      rw [Pl.run_nil] at HR
      have hsz0 : p.size ≤ 99999 := by simp only [List.length_nil] at hsz; omega
      obtain ⟨pa, pc, sa, sc, ga, gc, rfl, rfl, rfl, hpi⟩ := own_pol HO.out hsz0
      have HCH := Lib.hid (polCheck_any p pa pc sa sc ga gc wr hpi)
      have HF1 := Lib.hid (fun h => fin_bad (p := p) h)
      have HF2 := Lib.hid (fun h => fin_good (p := p) h)
      clear hpi
      simp only [polV] at HCH
      generalize Pl.check p = C at *
      obtain ⟨c0, c1, c2, c3, c4⟩ := HO.out.box
      rw [show ofL [] = ⟨#[]⟩ from rfl]
      by_cases hC : C = 0
      · have hz := isz hC
        have HF := Lib.hid ((HF2.out hC).symm.trans HR.out)
        clear hC
        go_wp2_with fail
        (with_reducible refine HCH.out.mono ?_)
        rintro e W1 ⟨rfl, hB1⟩
        have HO1 := Lib.hid (HO.out.on hB1)
        have HBX1 := Lib.hid (HBX.out.below hB1 HBX.out.c.lt)
        have HB1 := Lib.hid (bthen HB.out hB1 (Nat.le_refl _))
        clear hB1 c0 c1 c2 c3 c4
        obtain ⟨c0, c1, c2, c3, c4⟩ := HO1.out.box
        obtain ⟨⟨b0, b1, b2, b3, b4⟩, bf⟩ := HBX1.out
        have bf0 := bf 0
        have bf1 := bf 1
        have bf2 := bf 2
        have bf3 := bf 3
        have bf4 := bf 4
        have hlt0 := HBX1.out.c.lt
        clear bf
        go_wp2_with fail
        refine bodyPost_ret (v := .tuple #[.agg #[.int .i64 p.work, .int .i64 p.give, .slice pa p.places.length pc, .slice sa p.slots.length sc, .slice ga p.grants.length gc], .int .i64 0, .int .i64 0]) (by simp [results, Tryz.results17, go_sem, b0, b1, b2, b3, b4]) rfl ?_
        rw [← HF.out]
        have o5 := own_set5 HO1.out (q := w.heap.size) (by omega) (.int .i64 p.work) (.int .i64 p.give) (.slice pa p.places.length pc) (.slice sa p.slots.length sc) (.slice ga p.grants.length gc)
        obtain ⟨pa', pc', sa', sc', ga', gc', e1, e2, e3, hpi⟩ := own_pol o5 hsz0
        cases e1; cases e2; cases e3
        exact ⟨pa, pc, sa, sc, ga, gc, os_nil o5.os, rfl, hpi, below_set5 HB1.out _ _ _ _ _⟩
      · have hnz := nz hC
        have HF := Lib.hid ((HF1.out hC).symm.trans HR.out)
        clear hC
        go_wp2_with fail
        (with_reducible refine HCH.out.mono ?_)
        rintro e W1 ⟨rfl, hB1⟩
        have HBX1 := Lib.hid (HBX.out.below hB1 HBX.out.c.lt)
        have HB1 := Lib.hid (bthen HB.out hB1 (Nat.le_refl _))
        clear hB1 c0 c1 c2 c3 c4
        obtain ⟨⟨b0, b1, b2, b3, b4⟩, bf⟩ := HBX1.out
        have bf0 := bf 0
        have bf1 := bf 1
        have bf2 := bf 2
        have bf3 := bf 3
        have bf4 := bf 4
        have hlt0 := HBX1.out.c.lt
        clear bf
        go_wp2_with fail
        refine bodyPost_ret (v := .tuple #[.agg #[.int .i64 0, .int .i64 0, .slice none 0 0, .slice none 0 0, .slice none 0 0], .int .i64 0, .int .i64 (C : Int)]) (by simp [results, Tryz.results17, go_sem, b0, b1, b2, b3, b4]) rfl ?_
        rw [← HF.out]
        exact ⟨none, 0, none, 0, none, 0, fun _ => rfl, rfl, polIs_zero _, below_set5 HB1.out _ _ _ _ _⟩
    · have hne := str_ne (l := m) (by have := List.length_pos_iff.2 hm; omega)
      obtain ⟨x, r, hcut, hxl, hrl, t, hlines, hrest⟩ := cut_of m hm
      have HC := Lib.hid (cut_any m wr (by omega) HE.out.len)
      rw [hcut] at HC
      simp only at HC
      generalize (Lib.cut m [10]).2.2 = found at *
      have HT := Lib.hid (fun W (h : PolOwn W (w.heap.size + 2) (w.heap.size + 1) p pv sv gv) hE => take_any (w.heap.size + 2) (w.heap.size + 1) p pv sv gv x W h hE (by omega) (by omega) (by omega) (by omega))
      rw [hlines] at HR
      have hts := Pl.take_size p x
      have HBAD := Lib.hid (fun h => Pl.run_bad (x := x) (r := t) (k := k) (p := p) h)
      have HOK := Lib.hid (fun h => (Pl.run_ok (x := x) (r := t) (k := k) (p := p) h).trans (hrest _ _))
      clear hcut hlines hrest
      generalize Pl.take p x = Q at *
      obtain ⟨c, p'⟩ := Q
      simp only at hts
      go_wp2_with fail
      (with_reducible refine HC.out.mono ?_)
      rintro e W1 ⟨rfl, hB1⟩
      have HO1 := Lib.hid (HO.out.on hB1)
      have HE1 := Lib.hid (HE.out.on hB1)
      have HBX1 := Lib.hid (HBX.out.below hB1 HBX.out.c.lt)
      have HB1 := Lib.hid (bthen HB.out hB1 (Nat.le_refl _))
      clear hB1
      go_wp2_with fail
      (with_reducible refine (HT.out _ HO1.out HE1.out).mono ?_)
      rintro e W2 ⟨rfl, hT1, hT2⟩
      simp only at hT1
      have HT1 := Lib.hid hT1
      have HBX2 := Lib.hid (HBX1.out.below hT2 (by omega))
      have HB2 := Lib.hid (HB1.out.trans (hT2.mono (by omega)))
      clear hT1
      by_cases hc : c = 0
      · have hz := isz hc
        have hrun2 := (HOK.out hc).symm.trans HR.out
        obtain ⟨pv', sv', gv', hO2⟩ := HT1.out hc
        have HO2 := Lib.hid hO2
        have HE2 := Lib.hid (HE1.out.low hT2 (by omega) (by omega))
        have HR2 := Lib.hid hrun2
        clear hc hrun2 hO2 hT2
        go_wp2_with fail
        go_roundg r.length
        case rel => exact ⟨r, k + 1, p', pv', sv', gv', rfl, rfl, by go_num, by omega, by omega, by omega, HR2.out, HO2.out, HBX2.out, HE2.out, HB2.out⟩
        case measure => omega
      · have hnz := nz hc
        have HF := Lib.hid ((HBAD.out hc).symm.trans HR.out)
        clear hc hT2
        obtain ⟨⟨b0, b1, b2, b3, b4⟩, bf⟩ := HBX2.out
        have bf0 := bf 0
        have bf1 := bf 1
        have bf2 := bf 2
        have bf3 := bf 3
        have bf4 := bf 4
        have hlt0 := HBX2.out.c.lt
        clear bf
        go_wp2_with fail
        refine bodyPost_ret (v := .tuple #[.agg #[.int .i64 0, .int .i64 0, .slice none 0 0, .slice none 0 0, .slice none 0 0], .int .i64 (k : Int), .int .i64 (c : Int)]) (by simp [results, Tryz.results17, go_sem, b0, b1, b2, b3, b4]) rfl ?_
        rw [← HF.out]
        exact ⟨none, 0, none, 0, none, 0, fun _ => rfl, rfl, polIs_zero _, below_set5 HB2.out _ _ _ _ _⟩
end Go.Proofs.YtokljdaofjgihaaGreatDoor
namespace Go.Proofs.YtokljdaofjgihaaGreatDoor
open Go.ChangeShapes Go.WideShapes Go.ChangeAt Go.RowKit

end Go.Proofs.YtokljdaofjgihaaGreatDoor
namespace Go.Proofs.YtokljdaofjgihaaGreatDoor.Pl
theorem chk_parts {p : Pol} (h : check p = 0) : placesCode p.places = 0 ∧ slotsCode p.places.length p.slots = 0 ∧ grantsCode p.places p.grants = 0 ∧ turnsCode p.places.length p.slots = 0 := by
  unfold check at h
  split at h
  · by_cases h1 : placesCode p.places ≠ 0
    · rw [if_pos h1] at h; exact absurd h h1
    · rw [if_neg h1] at h
      by_cases h2 : slotsCode p.places.length p.slots ≠ 0
      · rw [if_pos h2] at h; exact absurd h h2
      · rw [if_neg h2] at h
        by_cases h3 : grantsCode p.places p.grants ≠ 0
        · rw [if_pos h3] at h; exact absurd h h3
        · rw [if_neg h3] at h
          exact ⟨by omega, by omega, by omega, h⟩
  · cases h
end Go.Proofs.YtokljdaofjgihaaGreatDoor.Pl
namespace Go.Proofs.YtokljdaofjgihaaGreatDoor
open Go.ChangeShapes Go.WideShapes Go.ChangeAt Go.RowKit
theorem check_small {p : Pl.Pol} (h : Pl.check p = 0) : p.places.length ≤ 100 ∧ p.slots.length ≤ 100 ∧ p.grants.length ≤ 100 := by
  obtain ⟨h1, h2, h3, -⟩ := Pl.chk_parts h
  have hc : ∀ n m, Pl.counted n m = 0 → n ≤ m := fun n m hc => by
    unfold Pl.counted at hc
    split at hc
    · omega
    · split at hc
      · cases hc
      · omega
  refine ⟨?_, ?_, ?_⟩
  · have : Pl.counted p.places.length 16 = 0 := by
      unfold Pl.placesCode at h1
      by_cases hk : Pl.counted p.places.length 16 ≠ 0
      · rw [if_pos hk] at h1; exact h1
      · omega
    have := hc _ _ this; omega
  · have : Pl.counted p.slots.length 32 = 0 := by
      unfold Pl.slotsCode at h2
      by_cases hk : Pl.counted p.slots.length 32 ≠ 0
      · rw [if_pos hk] at h2; exact h2
      · omega
    have := hc _ _ this; omega
  · unfold Pl.grantsCode at h3
    split at h3
    · cases h3
    · omega
theorem run_small : ∀ (ls : List (List UInt8)) (k : Nat) (p : Pl.Pol), (Pl.run ls k p).1.places.length ≤ 100 ∧ (Pl.run ls k p).1.slots.length ≤ 100 ∧ (Pl.run ls k p).1.grants.length ≤ 100
  | [], k, p => by
    show (Pl.fin p).1.places.length ≤ 100 ∧ (Pl.fin p).1.slots.length ≤ 100 ∧ (Pl.fin p).1.grants.length ≤ 100
    by_cases h : Pl.check p = 0
    · have := check_small h
      unfold Pl.fin
      rw [if_neg (by omega)]
      exact this
    · unfold Pl.fin
      rw [if_pos h]
      simp [Pl.Pol.zero]
  | x :: r, k, p => by
    by_cases h : (Pl.take p x).1 = 0
    · rw [Pl.run_ok h]; exact run_small r _ _
    · rw [Pl.run_bad h]; simp [Pl.Pol.zero]
structure PpIn (w : World) (g g' : Nat) (p : Pl.Pol) (pa : Option Addr) (pc : Nat) (sa : Option Addr) (sc : Nat) (ga : Option Addr) (gc : Nat) (pa' : Option Addr) (pc' : Nat) (sa' : Option Addr) (sc' : Nat) (ga' : Option Addr) (gc' : Nat) (W : World) : Prop where
  b0 : Cell5 W g (.int .i64 p.work) (.int .i64 p.give) (.slice pa p.places.length pc) (.slice sa p.slots.length sc) (.slice ga p.grants.length gc)
  b1 : Cell5 W g' (.int .i64 p.work) (.int .i64 p.give) (.slice pa' p.places.length pc') (.slice sa' p.slots.length sc') (.slice ga' p.grants.length gc')
  i0 : PolIs W p pa pc sa sc ga gc
  i1 : PolIs W p pa' pc' sa' sc' ga' gc'
  below : Below w.heap.size w W
theorem PpIn.on {w : World} {g g' : Nat} {p : Pl.Pol} {pa : Option Addr} {pc : Nat} {sa : Option Addr} {sc : Nat} {ga : Option Addr} {gc : Nat} {pa' : Option Addr} {pc' : Nat} {sa' : Option Addr} {sc' : Nat} {ga' : Option Addr} {gc' : Nat} {W W' : World} (h : PpIn w g g' p pa pc sa sc ga gc pa' pc' sa' sc' ga' gc' W) (hb : Below W.heap.size W W') : PpIn w g g' p pa pc sa sc ga gc pa' pc' sa' sc' ga' gc' W' :=
  ⟨h.b0.on hb, h.b1.on hb, h.i0.on hb, h.i1.on hb, h.below.trans (hb.mono h.below.size)⟩
abbrev PpS (w : World) (g g' : Nat) (p : Pl.Pol) (pa : Option Addr) (pc : Nat) (sa : Option Addr) (sc : Nat) (ga : Option Addr) (gc : Nat) (pa' : Option Addr) (pc' : Nat) (sa' : Option Addr) (sc' : Nat) (ga' : Option Addr) (gc' : Nat) (W : World) : Prop :=
  (W.cell? ⟨g, 0, none⟩ = some (.int .i64 p.work) ∧ W.cell? ⟨g, 1, none⟩ = some (.int .i64 p.give) ∧ W.cell? ⟨g, 2, none⟩ = some (.slice pa p.places.length pc) ∧ W.cell? ⟨g, 3, none⟩ = some (.slice sa p.slots.length sc) ∧ W.cell? ⟨g, 4, none⟩ = some (.slice ga p.grants.length gc) ∧
   W.cell? ⟨g', 0, none⟩ = some (.int .i64 p.work) ∧ W.cell? ⟨g', 1, none⟩ = some (.int .i64 p.give) ∧ W.cell? ⟨g', 2, none⟩ = some (.slice pa' p.places.length pc') ∧ W.cell? ⟨g', 3, none⟩ = some (.slice sa' p.slots.length sc') ∧ W.cell? ⟨g', 4, none⟩ = some (.slice ga' p.grants.length gc')) ∧ PpIn w g g' p pa pc sa sc ga gc pa' pc' sa' sc' ga' gc' W
theorem PpIn.six {w : World} {g g' : Nat} {p : Pl.Pol} {pa : Option Addr} {pc : Nat} {sa : Option Addr} {sc : Nat} {ga : Option Addr} {gc : Nat} {pa' : Option Addr} {pc' : Nat} {sa' : Option Addr} {sc' : Nat} {ga' : Option Addr} {gc' : Nat} {W : World} (h : PpIn w g g' p pa pc sa sc ga gc pa' pc' sa' sc' ga' gc' W) : PpS w g g' p pa pc sa sc ga gc pa' pc' sa' sc' ga' gc' W :=
  ⟨⟨h.b0.c0, h.b0.c1, h.b0.c2, h.b0.c3, h.b0.c4, h.b1.c0, h.b1.c1, h.b1.c2, h.b1.c3, h.b1.c4⟩, h⟩
theorem PpS.on {w : World} {g g' : Nat} {p : Pl.Pol} {pa : Option Addr} {pc : Nat} {sa : Option Addr} {sc : Nat} {ga : Option Addr} {gc : Nat} {pa' : Option Addr} {pc' : Nat} {sa' : Option Addr} {sc' : Nat} {ga' : Option Addr} {gc' : Nat} {W W' : World} (h : PpS w g g' p pa pc sa sc ga gc pa' pc' sa' sc' ga' gc' W) (hb : Below W.heap.size W W') : PpS w g g' p pa pc sa sc ga gc pa' pc' sa' sc' ga' gc' W' := (h.2.on hb).six
set_option maxRecDepth 100000 in
set_option maxHeartbeats 16000000 in
theorem ptext_walk (l : List UInt8) (w : World) (hl : l.length ≤ 9223372036854775807) (hE : Env w) :
    Calls Tryz.prog 4 #[.string (ofL l)] w fun e w' => e = .returned (.bool true) ∧ Below w.heap.size w w' := by
  have HAW := Lib.hid (awake5_any w hE)
  have HE := Lib.hid hE
  have hz : (ofL l).size = l.length := ofL_size l
  clear hE
  by_cases h2 : 2000 < l.length
  · go_enter Tryz.func4, Tryz.ntmps4
    go_wp2_with fail
    refine HAW.out.mono ?_
    rintro e w1 ⟨rfl, b1⟩
    have B1 := Lib.hid b1
    clear b1
    go_wp2_with fail
    go_ret
    exact ⟨rfl, B1.out⟩
  · have HPA := Lib.hid (fun W hE => pparse2_any l W (by omega) hE)
    have HRP := Lib.hid (fun W => rpol_any l W (by omega))
    have HSM := Lib.hid (run_small (Pl.lines l) 1 Pl.Pol.zero)
    rw [show Pl.run (Pl.lines l) 1 Pl.Pol.zero = Pl.parse l from rfl] at HSM
    generalize Pl.parse l = R at *
    obtain ⟨p, ln, code⟩ := R
    obtain ⟨s1, s2, s3⟩ := HSM.out
    clear HSM
    simp only at s1 s2 s3
    go_enter Tryz.func4, Tryz.ntmps4
    go_wp2_with fail
    refine HAW.out.mono ?_
    rintro e w1 ⟨rfl, b1⟩
    have HE1 := Lib.hid (HE.out.on b1)
    have HB1 := Lib.hid b1
    clear b1
    go_wp2_with fail
    refine (HPA.out _ HE1.out).mono ?_
    rintro e w2 ⟨pa, pc, sa, sc, ga, gc, hnil, rfl, hp, b2⟩
    simp only at hp
    have hal : Below w2.heap.size w2 (w2.alloc (.cells #[.int .i64 p.work, .int .i64 p.give, .slice pa p.places.length pc, .slice sa p.slots.length sc, .slice ga p.grants.length gc] 26)) := (Below.refl _ _).alloc (Nat.le_refl _) _
    have HC0 := Lib.hid (Cell5.new w2 (.int .i64 p.work) (.int .i64 p.give) (.slice pa p.places.length pc) (.slice sa p.slots.length sc) (.slice ga p.grants.length gc) 26)
    have HI0 := Lib.hid (hp.on hal)
    have HB2 := Lib.hid (bthen (bthen HB1.out b2 (Nat.le_refl _)) hal (Nat.le_refl _))
    have HTO := Lib.hid (fun W (h : PolIs W p pa pc sa sc ga gc) => to_any p pa pc sa sc ga gc W h s1 s2 s3 hnil)
    clear hp b2 hal
    simp only [polV] at HTO ⊢
    go_wp2_with fail
    refine (HRP.out _).mono ?_
    rintro e w3 ⟨pa', pc', sa', sc', ga', gc', rfl, hp', b3⟩
    simp only at hp'
    have hal : Below w3.heap.size w3 (w3.alloc (.cells #[.int .i64 p.work, .int .i64 p.give, .slice pa' p.places.length pc', .slice sa' p.slots.length sc', .slice ga' p.grants.length gc'] 32)) := (Below.refl _ _).alloc (Nat.le_refl _) _
    have HX0 := Lib.hid (show PpIn w w2.heap.size w3.heap.size p pa pc sa sc ga gc pa' pc' sa' sc' ga' gc' _ from ⟨(HC0.out.on b3).on hal, Cell5.new w3 _ _ _ _ _ 32, (HI0.out.on b3).on hal, hp'.on hal, bthen (bthen HB2.out b3 (Nat.le_refl _)) hal (Nat.le_refl _)⟩)
    have HSM := Lib.hid (fun qa qc ra rc ta tc W h0 h1 => rsame_any p qa qc ra rc ta tc pa' pc' sa' sc' ga' gc' W h0 h1)
    clear hp' b3 hal
    simp only [polV] at HSM ⊢
    go_upto_region 7 with fail
    generalize w3.alloc (.cells #[.int .i64 p.work, .int .i64 p.give, .slice pa' p.places.length pc', .slice sa' p.slots.length sc', .slice ga' p.grants.length gc'] 32) = wq at *
    generalize w3.heap.size = g' at *
    generalize w2.heap.size = g at *
    have HX := Lib.hid (show PpIn w g g' p pa pc sa sc ga gc pa' pc' sa' sc' ga' gc' wq.drew from HX0.out.on (Below.refl _ _).drew)
    clear HAW HE HPA HRP HE1 HB1 HC0 HI0 HB2 HX0
    refine wp_region_noPanic ?_
    refine wp_region_held_drew (S := PpS w g g' p pa pc sa sc ga gc pa' pc' sa' sc' ga' gc') (by kernel_rfl) ?_ (fun hHeld => ?_)
    · (try dsimp only); (first | assumption | exact HX.out.six | exact PpS.on (by assumption) hb2)
    refine wpAnyH_take (i := 0) (v := ?_) rfl (by kernel_rfl) (by kernel_rfl) (by kernel_rfl) (fun _ _ _ h => h) (Or.inl ⟨by rfl, ?_⟩) (by assumption) ?_
    rotate_left
    · intro w hSw; (try dsimp only at hSw); go_simp; try with_reducible rfl
    (try simp only [List.getElem_toArray, List.getElem_cons_zero, Act.put, List.setIfInBounds_toArray, List.set_cons_zero, List.set_cons_succ])
    refine wpAnyH_take (i := 1) (v := ?_) rfl (by kernel_rfl) (by kernel_rfl) (by kernel_rfl) (fun _ _ _ h => h) (Or.inl ⟨by rfl, ?_⟩) (by assumption) ?_
    rotate_left
    · intro w hSw; (try dsimp only at hSw); go_simp; try with_reducible rfl
    (try simp only [List.getElem_toArray, List.getElem_cons_succ, List.getElem_cons_zero, Act.put, List.setIfInBounds_toArray, List.set_cons_zero, List.set_cons_succ])
    refine wpAnyH_take (i := 2) (v := ?_) rfl (by kernel_rfl) (by kernel_rfl) (by kernel_rfl) (fun _ _ _ h => h) (Or.inl ⟨by rfl, ?_⟩) (by assumption) ?_
    rotate_left
    · intro w hSw; (try dsimp only at hSw); go_simp; try with_reducible rfl
    (try simp only [List.getElem_toArray, List.getElem_cons_succ, List.getElem_cons_zero, Act.put, List.setIfInBounds_toArray, List.set_cons_zero, List.set_cons_succ])
    refine wpAnyH_take (i := 3) (v := ?_) rfl (by kernel_rfl) (by kernel_rfl) (by kernel_rfl) (fun _ _ _ h => h) (Or.inl ⟨by rfl, ?_⟩) (by assumption) ?_
    rotate_left
    · intro w hSw; (try dsimp only at hSw); go_simp; try with_reducible rfl
    (try simp only [List.getElem_toArray, List.getElem_cons_succ, List.getElem_cons_zero, Act.put, List.setIfInBounds_toArray, List.set_cons_zero, List.set_cons_succ])
    refine wpAnyH_take (i := 4) (v := ?_) rfl (by kernel_rfl) (by kernel_rfl) (by kernel_rfl) (fun _ _ _ h => h) (Or.inl ⟨by rfl, ?_⟩) (by assumption) ?_
    rotate_left
    · intro w hSw; (try dsimp only at hSw); go_simp; try with_reducible rfl
    (try simp only [List.getElem_toArray, List.getElem_cons_succ, List.getElem_cons_zero, Act.put, List.setIfInBounds_toArray, List.set_cons_zero, List.set_cons_succ])
    refine wpAnyH_take (i := 5) (v := ?_) rfl (by kernel_rfl) (by kernel_rfl) (by kernel_rfl) (fun _ _ _ h => h) (Or.inl ⟨by rfl, ?_⟩) (by assumption) ?_
    rotate_left
    · intro w hSw; (try dsimp only at hSw); go_simp; try with_reducible rfl
    (try simp only [List.getElem_toArray, List.getElem_cons_succ, List.getElem_cons_zero, Act.put, List.setIfInBounds_toArray, List.set_cons_zero, List.set_cons_succ])
    refine wpAnyH_take (i := 6) (v := ?_) rfl (by kernel_rfl) (by kernel_rfl) (by kernel_rfl) (fun _ _ _ h => h) (Or.inl ⟨by rfl, ?_⟩) (by assumption) ?_
    rotate_left
    · intro w hSw; (try dsimp only at hSw); go_simp; try with_reducible rfl
    (try simp only [List.getElem_toArray, List.getElem_cons_succ, List.getElem_cons_zero, Act.put, List.setIfInBounds_toArray, List.set_cons_zero, List.set_cons_succ])
    refine wpAnyH_take (i := 7) (v := ?_) rfl (by kernel_rfl) (by kernel_rfl) (by kernel_rfl) (fun _ _ _ h => h) (Or.inl ⟨by rfl, ?_⟩) (by assumption) ?_
    rotate_left
    · intro w hSw; (try dsimp only at hSw); go_simp; try with_reducible rfl
    (try simp only [List.getElem_toArray, List.getElem_cons_succ, List.getElem_cons_zero, Act.put, List.setIfInBounds_toArray, List.set_cons_zero, List.set_cons_succ])
    refine wpAnyH_take (i := 8) (v := ?_) rfl (by kernel_rfl) (by kernel_rfl) (by kernel_rfl) (fun _ _ _ h => h) (Or.inl ⟨by rfl, ?_⟩) (by assumption) ?_
    rotate_left
    · intro w hSw; (try dsimp only at hSw); go_simp; try with_reducible rfl
    (try simp only [List.getElem_toArray, List.getElem_cons_succ, List.getElem_cons_zero, Act.put, List.setIfInBounds_toArray, List.set_cons_zero, List.set_cons_succ])
    refine wpAnyH_take (i := 9) (v := ?_) rfl (by kernel_rfl) (by kernel_rfl) (by kernel_rfl) (fun _ _ _ h => h) (Or.inl ⟨by rfl, ?_⟩) (by assumption) ?_
    rotate_left
    · intro w hSw; (try dsimp only at hSw); go_simp; try with_reducible rfl
    (try simp only [List.getElem_toArray, List.getElem_cons_succ, List.getElem_cons_zero, Act.put, List.setIfInBounds_toArray, List.set_cons_zero, List.set_cons_succ])
    refine wpAnyH_take (i := 11) (v := ?_) rfl (by kernel_rfl) (by kernel_rfl) (by kernel_rfl) (fun _ _ _ h => h) (Or.inl ⟨by rfl, ?_⟩) (by assumption) ?_
    rotate_left
    · intro w hSw; (try dsimp only at hSw); go_simp; try with_reducible rfl
    (try simp only [List.getElem_toArray, List.getElem_cons_succ, List.getElem_cons_zero, Act.put, List.setIfInBounds_toArray, List.set_cons_zero, List.set_cons_succ])
    refine wpAnyH_ready (rs := [10]) (by kernel_rfl) (by simp) ?_
    refine AllReadyH.cons rfl (fun K hK => ?_) (AllReadyH.nil)
    · go_simp
      (go_at_call 11; ((with_reducible refine (HTO.out _ hHeld.2.i0).mono ?_); rintro e' wz ⟨pa2, pc2, sa2, sc2, ga2, gc2, rfl, hp2, hb2⟩; have HP2 := Lib.hid hp2; clear hp2; simp only [polV]))
      refine hK.out _ _ ?_ (fun hHeld => ?_)
      · (try dsimp only); (first | assumption | exact HX.out.six | exact PpS.on (by assumption) hb2)
      clear hK K
      (try simp only [List.getElem_toArray, List.getElem_cons_succ, List.getElem_cons_zero, Act.put, List.setIfInBounds_toArray, List.set_cons_zero, List.set_cons_succ])
      refine wpAnyH_ready (rs := [12]) (by kernel_rfl) (by simp) ?_
      refine AllReadyH.cons rfl (fun K hK => ?_) (AllReadyH.nil)
      · go_simp
        (go_at_call 19; ((with_reducible refine (HSM.out _ _ _ _ _ _ _ HP2.out hHeld.2.i1).mono ?_); rintro e' wz2 ⟨rfl, hb2⟩))
        refine hK.out _ _ ?_ (fun hHeld => ?_)
        · (try dsimp only); (first | assumption | exact HX.out.six | exact PpS.on (by assumption) hb2)
        clear hK K
        (try simp only [List.getElem_toArray, List.getElem_cons_succ, List.getElem_cons_zero, Act.put, List.setIfInBounds_toArray, List.set_cons_zero, List.set_cons_succ])
        refine wpAnyH_take (i := 13) (v := ?_) rfl (by kernel_rfl) (by kernel_rfl) (by kernel_rfl) (fun _ _ _ h => h) (Or.inl ⟨by rfl, ?_⟩) (by assumption) ?_
        rotate_left
        · intro w hSw; (try dsimp only at hSw); go_simp; try with_reducible rfl
        (try simp only [List.getElem_toArray, List.getElem_cons_succ, List.getElem_cons_zero, Act.put, List.setIfInBounds_toArray, List.set_cons_zero, List.set_cons_succ])
        refine wpAnyH_take (i := 14) (v := ?_) rfl (by kernel_rfl) (by kernel_rfl) (by kernel_rfl) (fun _ _ _ h => h) (Or.inl ⟨by rfl, ?_⟩) (by assumption) ?_
        rotate_left
        · intro w hSw; (try dsimp only at hSw); go_simp; try with_reducible rfl
        (try simp only [List.getElem_toArray, List.getElem_cons_succ, List.getElem_cons_zero, Act.put, List.setIfInBounds_toArray, List.set_cons_zero, List.set_cons_succ])
        refine wpAnyH_done (by kernel_rfl) ?_ _
        refine NoPanic.normal ?_
        have hbl := hHeld.2.below
        go_wp2_with fail
        go_ret
        exact ⟨by simp, hbl⟩
theorem ptextLaw (s : ByteArray) (w : World) (hs : s.size ≤ maxLen) (hE : Env w) : Calls Tryz.prog 4 #[.string s] w fun e w' => e = .returned (.bool true) ∧ Below w.heap.size w w' := by
  have hz := ofL_size s.data.toList
  rw [ofL_toList] at hz
  have := ptext_walk s.data.toList w (by unfold maxLen at hs; omega) hE
  rw [ofL_toList] at this
  exact this
end Go.Proofs.YtokljdaofjgihaaGreatDoor
