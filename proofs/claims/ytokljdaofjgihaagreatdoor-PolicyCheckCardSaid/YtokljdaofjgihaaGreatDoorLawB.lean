/-
  A POLICY AS THE DOCUMENT'S: the law's own copy.
-/
import Derived.Test.YtokljdaofjgihaaGreatDoorLawA
namespace Go.Proofs.YtokljdaofjgihaaGreatDoor
open Go.ChangeShapes Go.WideShapes Go.ChangeAt Go.RowKit

theorem rown_plcs {w : World} {B : Nat} {v : Value} {l : List Pl.Plc} (h : w.ownsRow B 73 5 v l.length (pcs l)) (hf : ∀ i, i < l.length → PlcFits (Pl.plc l i)) :
    ∃ A c, v = .slice A l.length c ∧ l.length ≤ c ∧ (∀ a, A = some a → v.ownBlock = some a.block) ∧ Plcs w A l := by
  obtain ⟨A, c, rfl, hc, hb, hx⟩ := own_cells h
  refine ⟨A, c, rfl, hc, hb, ⟨fun i hi => ?_⟩⟩
  obtain ⟨g, rfl, hg, hcell⟩ := hx (by omega)
  have e : Pl.plc l i = l[i] := by unfold Pl.plc; rw [List.getD_eq_getElem?_getD, List.getElem?_eq_getElem hi]; rfl
  have at_ : ∀ t, t < 5 → w.cell? ⟨g, i * 5 + t, none⟩ = (plcL l[i])[t]? := fun t ht => by
    rw [hcell _ (by omega)]
    exact flat_get plcL 5 (fun _ => rfl) (by omega) l i t hi ht
  refine ⟨g, 0, rfl, hg, hf i hi, ?_⟩
  rw [e, Nat.zero_add]
  exact ⟨at_ 0 (by omega), at_ 1 (by omega), at_ 2 (by omega), at_ 3 (by omega), at_ 4 (by omega)⟩
theorem rown_grns {w : World} {B : Nat} {v : Value} {l : List Pl.Grn} (h : w.ownsRow B 76 3 v l.length (gcs l)) :
    ∃ A c, v = .slice A l.length c ∧ l.length ≤ c ∧ (∀ a, A = some a → v.ownBlock = some a.block) ∧ Grns w A l := by
  obtain ⟨A, c, rfl, hc, hb, hx⟩ := own_cells h
  refine ⟨A, c, rfl, hc, hb, ⟨fun i hi => ?_⟩⟩
  obtain ⟨g, rfl, hg, hcell⟩ := hx (by omega)
  have e : Pl.grn l i = l[i] := by unfold Pl.grn; rw [List.getD_eq_getElem?_getD, List.getElem?_eq_getElem hi]; rfl
  have at_ : ∀ t, t < 3 → w.cell? ⟨g, i * 3 + t, none⟩ = (grnL l[i])[t]? := fun t ht => by
    rw [hcell _ (by omega)]
    exact flat_get grnL 3 (fun _ => rfl) (by omega) l i t hi ht
  refine ⟨g, 0, rfl, hg, ?_⟩
  rw [e, Nat.zero_add]
  exact ⟨at_ 0 (by omega), at_ 1 (by omega), at_ 2 (by omega)⟩
/-- a policy of one's own: its struct in block b, its rows in blocks from B on -/
structure ROwn (W : World) (B b : Nat) (p : Pl.Pol) (pv sv gv : Value) : Prop where
  box : Cell5 W b (.int .i64 p.work) (.int .i64 p.give) pv sv gv
  fz : ∀ j, W.frozen? ⟨b, j, none⟩ = false
  op : W.ownsRow B 73 5 pv p.places.length (pcs p.places)
  os : W.ownsRow B 3 1 sv p.slots.length (ics p.slots)
  og : W.ownsRow B 76 3 gv p.grants.length (gcs p.grants)
  bB : b < B
  BW : B ≤ W.heap.size
  fits : ∀ i, i < p.places.length → PlcFits (Pl.plc p.places i)
theorem ROwn.kept {W W' : World} {B b r : Nat} {p : Pl.Pol} {pv sv gv : Value} (h : ROwn W B b p pv sv gv) (hg : W.grownBy W' (some r)) (hb : b ≠ r) (h1 : pv.ownBlock ≠ some r) (h2 : sv.ownBlock ≠ some r) (h3 : gv.ownBlock ≠ some r) : ROwn W' B b p pv sv gv := by
  have hne : some b ≠ some r := by simpa using hb
  have c := h.box
  refine ⟨⟨hg.cell c.c0 hne, hg.cell c.c1 hne, hg.cell c.c2 hne, hg.cell c.c3 hne, hg.cell c.c4 hne⟩, fun j => ?_, h.op.kept hg (.inr h1), h.os.kept hg (.inr h2), h.og.kept hg (.inr h3), h.bB, Nat.le_trans h.BW hg.size, h.fits⟩
  exact (World.frozen?_of_block (a := ⟨b, j, none⟩) (hg.block b c.lt hne)).trans (h.fz j)
theorem ROwn.on {W W' : World} {B b : Nat} {p : Pl.Pol} {pv sv gv : Value} (h : ROwn W B b p pv sv gv) (hb : Below W.heap.size W W') : ROwn W' B b p pv sv gv :=
  h.kept (r := W.heap.size) (gb hb _) (by have := h.box.lt; omega) (fun e => by have := (h.op.lt _ e).2; omega) (fun e => by have := (h.os.lt _ e).2; omega) (fun e => by have := (h.og.lt _ e).2; omega)
theorem rown_places {W w1 : World} {B b : Nat} {p : Pl.Pol} {pv sv gv v' : Value} {x : Pl.Plc} (h : ROwn W B b p pv sv gv) (hx : PlcFits x) (hg : W.grownBy w1 pv.ownBlock) (ho : w1.ownsRow B 73 5 v' (p.places.length + 1) (pcs p.places ++ plcL x)) :
    ROwn (w1.setCell ⟨b, 2, none⟩ v') B b { p with places := p.places ++ [x] } v' sv gv := by
  have c := h.box
  have hne : some b ≠ pv.ownBlock := by
    rcases own_ne h.op h.bB with e | e
    · rw [e]; simp
    · exact fun q => e q.symm
  have g2 := only_set w1 b 2 v'
  have hb : b < B := h.bB
  have ho' : w1.ownsRow B 73 5 v' (p.places ++ [x]).length (pcs (p.places ++ [x])) := by rw [List.length_append, pcs_snoc]; exact ho
  have os1 := h.os.kept hg (own_types h.os h.op (by decide))
  have og1 := h.og.kept hg (own_types h.og h.op (by decide))
  refine ⟨Cell5.set2 ⟨hg.cell c.c0 hne, hg.cell c.c1 hne, hg.cell c.c2 hne, hg.cell c.c3 hne, hg.cell c.c4 hne⟩ v', fun j => ?_, ho'.kept g2 (own_ne ho' hb), os1.kept g2 (own_ne os1 hb), og1.kept g2 (own_ne og1 hb), hb, Nat.le_trans h.BW (Nat.le_trans hg.size g2.size), fun i hi => ?_⟩
  · rw [World.frozen?_setCell]
    exact (World.frozen?_of_block (a := ⟨b, j, none⟩) (hg.block b c.lt hne)).trans (h.fz j)
  · simp only [List.length_append, List.length_singleton] at hi
    unfold Pl.plc
    simp only
    by_cases e : i < p.places.length
    · rw [List.getD_eq_getElem?_getD, List.getElem?_append_left e, ← List.getD_eq_getElem?_getD]
      exact h.fits i e
    · obtain rfl : i = p.places.length := by omega
      rw [List.getD_eq_getElem?_getD, List.getElem?_append_right (Nat.le_refl _), Nat.sub_self]
      exact hx
theorem rown_grants {W w1 : World} {B b : Nat} {p : Pl.Pol} {pv sv gv v' : Value} {x : Pl.Grn} (h : ROwn W B b p pv sv gv) (hg : W.grownBy w1 gv.ownBlock) (ho : w1.ownsRow B 76 3 v' (p.grants.length + 1) (gcs p.grants ++ grnL x)) :
    ROwn (w1.setCell ⟨b, 4, none⟩ v') B b { p with grants := p.grants ++ [x] } pv sv v' := by
  have c := h.box
  have hne : some b ≠ gv.ownBlock := by
    rcases own_ne h.og h.bB with e | e
    · rw [e]; simp
    · exact fun q => e q.symm
  have g2 := only_set w1 b 4 v'
  have hb : b < B := h.bB
  have ho' : w1.ownsRow B 76 3 v' (p.grants ++ [x]).length (gcs (p.grants ++ [x])) := by rw [List.length_append, gcs_snoc]; exact ho
  have op1 := h.op.kept hg (own_types h.op h.og (by decide))
  have os1 := h.os.kept hg (own_types h.os h.og (by decide))
  refine ⟨Cell5.set4 ⟨hg.cell c.c0 hne, hg.cell c.c1 hne, hg.cell c.c2 hne, hg.cell c.c3 hne, hg.cell c.c4 hne⟩ v', fun j => ?_, op1.kept g2 (own_ne op1 hb), os1.kept g2 (own_ne os1 hb), ho'.kept g2 (own_ne ho' hb), hb, Nat.le_trans h.BW (Nat.le_trans hg.size g2.size), h.fits⟩
  rw [World.frozen?_setCell]
  exact (World.frozen?_of_block (a := ⟨b, j, none⟩) (hg.block b c.lt hne)).trans (h.fz j)
theorem rown_slots {W w1 : World} {B b : Nat} {p : Pl.Pol} {pv sv gv v' : Value} {l : List Int} (h : ROwn W B b p pv sv gv) (h0 : p.slots = []) (hg : W.grownBy w1 sv.ownBlock) (ho : w1.ownsRow B 3 1 v' l.length (ics l)) :
    ROwn (w1.setCell ⟨b, 3, none⟩ v') B b { p with slots := l } pv v' gv := by
  have c := h.box
  have hne : some b ≠ sv.ownBlock := by
    rcases own_ne h.os h.bB with e | e
    · rw [e]; simp
    · exact fun q => e q.symm
  have g2 := only_set w1 b 3 v'
  have hb : b < B := h.bB
  have op1 := h.op.kept hg (own_types h.op h.os (by decide))
  have og1 := h.og.kept hg (own_types h.og h.os (by decide))
  refine ⟨Cell5.set3 ⟨hg.cell c.c0 hne, hg.cell c.c1 hne, hg.cell c.c2 hne, hg.cell c.c3 hne, hg.cell c.c4 hne⟩ v', fun j => ?_, op1.kept g2 (own_ne op1 hb), ho.kept g2 (own_ne ho hb), og1.kept g2 (own_ne og1 hb), hb, Nat.le_trans h.BW (Nat.le_trans hg.size g2.size), h.fits⟩
  rw [World.frozen?_setCell]
  exact (World.frozen?_of_block (a := ⟨b, j, none⟩) (hg.block b c.lt hne)).trans (h.fz j)
theorem rown_pol {W : World} {B b : Nat} {p : Pl.Pol} {pv sv gv : Value} (h : ROwn W B b p pv sv gv) (hs : p.size ≤ 99999) :
    ∃ pa pc sa sc ga gc, pv = .slice pa p.places.length pc ∧ sv = .slice sa p.slots.length sc ∧ gv = .slice ga p.grants.length gc ∧ PolIs W p pa pc sa sc ga gc := by
  obtain ⟨pa, pc, h1, h2, -, h3⟩ := rown_plcs h.op h.fits
  obtain ⟨sa, sc, k1, k2, -, k3⟩ := own_ints h.os
  obtain ⟨ga, gc, g1, g2, -, g3⟩ := rown_grns h.og
  unfold Pl.Pol.size at hs
  exact ⟨pa, pc, sa, sc, ga, gc, h1, k1, g1, h3, k3, g3, by omega, by omega, by omega, h2, k2, g2⟩
theorem info73 : (Tryz.prog.info? 73).map (fun i => (i.zero, i.size, i.bytes)) = some (some (.agg #[.string ⟨#[]⟩, .int .u8 0, .int .u32 0, .int .i64 0, .int .u64 0]), 5, 40) := by kernel_rfl
theorem info76 : (Tryz.prog.info? 76).map (fun i => (i.zero, i.size, i.bytes)) = some (some (.agg #[.int .i64 0, .int .i64 0, .int .i64 0]), 3, 24) := by kernel_rfl
/-- what comes out of a call that hands back a policy -/
def PolPost (p : Pl.Pol) (W : World) (e : Ending) (W' : World) : Prop :=
  ∃ pa pc sa sc ga gc, e = .returned (polV p pa pc sa sc ga gc) ∧ PolIs W' p pa pc sa sc ga gc ∧ Below W.heap.size W W'
/-- while the copy is made -/
structure CpSt (w W : World) (q : Pl.Pol) (x0 x1 x2 x3 x4 : Value) (pv sv gv : Value) : Prop where
  own : ROwn W (w.heap.size + 3) (w.heap.size + 1 + 1) q pv sv gv
  box : Cell5 W w.heap.size x0 x1 x2 x3 x4
  res : Box5 W (w.heap.size + 1) (.int .i64 0) (.int .i64 0) zs zs zs
  bel : Below w.heap.size w W
theorem take_snoc' {α : Type} (l : List α) (k : Nat) (h : k < l.length) : l.take (k + 1) = l.take k ++ [l[k]] := List.take_succ_eq_append_getElem h
theorem plc_get (l : List Pl.Plc) (k : Nat) (h : k < l.length) : Pl.plc l k = l[k] := by unfold Pl.plc; rw [List.getD_eq_getElem?_getD, List.getElem?_eq_getElem h]; rfl
theorem grn_get (l : List Pl.Grn) (k : Nat) (h : k < l.length) : Pl.grn l k = l[k] := by unfold Pl.grn; rw [List.getD_eq_getElem?_getD, List.getElem?_eq_getElem h]; rfl
def Cp1 (w : World) (p : Pl.Pol) (pa : Option Addr) (pc : Nat) (sa : Option Addr) (sc : Nat) (ga : Option Addr) (gc : Nat) (g : Nat) (i : Value) (wr : World) : Prop :=
  ∃ (k : Nat) (pv : Value), k + g = p.places.length ∧ i = .int .i64 (k : Int) ∧ CpSt w wr ⟨p.work, p.give, p.places.take k, [], []⟩ (.int .i64 p.work) (.int .i64 p.give) (.slice pa p.places.length pc) (.slice sa p.slots.length sc) (.slice ga p.grants.length gc) pv zs zs
def Cp2 (w : World) (p : Pl.Pol) (pa : Option Addr) (pc : Nat) (sa : Option Addr) (sc : Nat) (ga : Option Addr) (gc : Nat) (g : Nat) (i : Value) (wr : World) : Prop :=
  ∃ (k : Nat) (pv sv gv : Value), k + g = p.grants.length ∧ i = .int .i64 (k : Int) ∧ CpSt w wr ⟨p.work, p.give, p.places, p.slots, p.grants.take k⟩ (.int .i64 p.work) (.int .i64 p.give) (.slice pa p.places.length pc) (.slice sa p.slots.length sc) (.slice ga p.grants.length gc) pv sv gv
theorem CpSt.on {w W W' : World} {q : Pl.Pol} {x0 x1 x2 x3 x4 : Value} {pv sv gv : Value} (h : CpSt w W q x0 x1 x2 x3 x4 pv sv gv) (hb : Below W.heap.size W W') : CpSt w W' q x0 x1 x2 x3 x4 pv sv gv :=
  ⟨h.own.on hb, h.box.on hb, h.res.below hb h.res.c.lt, bthen h.bel hb (Nat.le_refl _)⟩
theorem CpSt.app {w W w1 : World} {q q' : Pl.Pol} {x0 x1 x2 x3 x4 : Value} {pv sv gv pv' sv' gv' : Value} (h : CpSt w W q x0 x1 x2 x3 x4 pv sv gv) {row : Option Nat} (hg : W.grownBy w1 row) (hr : ∀ k, row = some k → w.heap.size + 3 ≤ k) (i : Nat) (v : Value)
    (ho : ROwn (w1.setCell ⟨w.heap.size + 1 + 1, i, none⟩ v) (w.heap.size + 3) (w.heap.size + 1 + 1) q' pv' sv' gv') : CpSt w (w1.setCell ⟨w.heap.size + 1 + 1, i, none⟩ v) q' x0 x1 x2 x3 x4 pv' sv' gv' := by
  have hB := h.own.BW
  have b1 : Below (w.heap.size + 1 + 1) W w1 := own_below hg (B := w.heap.size + 3) (by omega) (by omega) hr
  have b2 : Below (w.heap.size + 1 + 1) W (w1.setCell ⟨w.heap.size + 1 + 1, i, none⟩ v) := b1.setCell (Nat.le_refl _) _
  exact ⟨ho, h.box.below b2 (by omega), h.res.below b2 (by omega), h.bel.trans (b2.mono (by omega))⟩
theorem CpSt.place {w W w1 : World} {q : Pl.Pol} {x0 x1 x2 x3 x4 : Value} {pv sv gv v' : Value} {x : Pl.Plc} (h : CpSt w W q x0 x1 x2 x3 x4 pv sv gv) (hx : PlcFits x) (hg : W.grownBy w1 pv.ownBlock) (ho : w1.ownsRow (w.heap.size + 3) 73 5 v' (q.places.length + 1) (pcs q.places ++ plcL x)) :
    CpSt w (w1.setCell ⟨w.heap.size + 1 + 1, 2, none⟩ v') { q with places := q.places ++ [x] } x0 x1 x2 x3 x4 v' sv gv :=
  h.app hg (fun k hk => (h.own.op.lt k hk).1) 2 v' (rown_places h.own hx hg ho)
theorem CpSt.slot {w W w1 : World} {q : Pl.Pol} {x0 x1 x2 x3 x4 : Value} {pv sv gv v' : Value} {l : List Int} (h : CpSt w W q x0 x1 x2 x3 x4 pv sv gv) (h0 : q.slots = []) (hg : W.grownBy w1 sv.ownBlock) (ho : w1.ownsRow (w.heap.size + 3) 3 1 v' l.length (ics l)) :
    CpSt w (w1.setCell ⟨w.heap.size + 1 + 1, 3, none⟩ v') { q with slots := l } x0 x1 x2 x3 x4 pv v' gv :=
  h.app hg (fun k hk => (h.own.os.lt k hk).1) 3 v' (rown_slots h.own h0 hg ho)
theorem CpSt.grnt {w W w1 : World} {q : Pl.Pol} {x0 x1 x2 x3 x4 : Value} {pv sv gv v' : Value} {x : Pl.Grn} (h : CpSt w W q x0 x1 x2 x3 x4 pv sv gv) (hg : W.grownBy w1 gv.ownBlock) (ho : w1.ownsRow (w.heap.size + 3) 76 3 v' (q.grants.length + 1) (gcs q.grants ++ grnL x)) :
    CpSt w (w1.setCell ⟨w.heap.size + 1 + 1, 4, none⟩ v') { q with grants := q.grants ++ [x] } x0 x1 x2 x3 x4 pv sv v' :=
  h.app hg (fun k hk => (h.own.og.lt k hk).1) 4 v' (rown_grants h.own hg ho)
theorem CpSt.two {w wr : World} {q : Pl.Pol} {x0 x1 x2 x3 x4 : Value} {pv sv gv : Value} (h : CpSt w wr q x0 x1 x2 x3 x4 pv sv gv) (o1 o2 : Obj) : CpSt w ((wr.alloc o1).alloc o2) q x0 x1 x2 x3 x4 pv sv gv :=
  h.on (((Below.refl _ _).alloc (Nat.le_refl _) _).alloc (by simp) _)
end Go.Proofs.YtokljdaofjgihaaGreatDoor
