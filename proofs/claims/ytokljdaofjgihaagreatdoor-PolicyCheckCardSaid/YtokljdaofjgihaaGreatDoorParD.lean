/-
  A POLICY THAT IS READ, in memory of its own; what a line tells, walked: the program's.
-/
import Derived.Test.YtokljdaofjgihaaGreatDoorParC
import Derived.Deep.AppendLies
import Derived.Laws.OwnMore
namespace Go.Proofs.YtokljdaofjgihaaGreatDoor
open Go.ChangeShapes Go.WideShapes Go.ChangeAt Go.RowKit

def plcL (x : Pl.Plc) : List Value := [.string (ofL x.name), .int .u8 (x.lv : Int), .int .u32 (x.set : Int), .int .i64 x.bytes, .int .u64 (x.base : Int)]
def grnL (x : Pl.Grn) : List Value := [.int .i64 x.fr, .int .i64 x.to, .int .i64 x.bud]
def pcs (l : List Pl.Plc) : List Value := l.flatMap plcL
def gcs (l : List Pl.Grn) : List Value := l.flatMap grnL
def ics (l : List Int) : List Value := l.map (Value.int .i64)
theorem flat_get {α : Type} (f : α → List Value) (c : Nat) (hf : ∀ x, (f x).length = c) (hc : 0 < c) : ∀ (l : List α) (i t : Nat) (h : i < l.length), t < c → (l.flatMap f)[i * c + t]? = (f l[i])[t]?
  | [], i, t, h, _ => by simp at h
  | x :: l, 0, t, h, ht => by
    rw [List.flatMap_cons, List.getElem?_append_left (by rw [hf]; omega)]
    simp
  | x :: l, i + 1, t, h, ht => by
    have ih := flat_get f c hf hc l i t (by simpa using h) ht
    rw [List.flatMap_cons, List.getElem?_append_right (by rw [hf, Nat.succ_mul]; omega), hf]
    rw [show (i + 1) * c + t - c = i * c + t by rw [Nat.succ_mul]; omega, ih]
    rfl
theorem flat_len {α : Type} (f : α → List Value) (c : Nat) (hf : ∀ x, (f x).length = c) (l : List α) : (l.flatMap f).length = l.length * c := by
  induction l with
  | nil => simp
  | cons x l ih => rw [List.flatMap_cons, List.length_append, hf, ih, List.length_cons, Nat.succ_mul]; omega
theorem pcs_snoc (l : List Pl.Plc) (x : Pl.Plc) : pcs (l ++ [x]) = pcs l ++ plcL x := by unfold pcs; rw [List.flatMap_append]; simp
theorem gcs_snoc (l : List Pl.Grn) (x : Pl.Grn) : gcs (l ++ [x]) = gcs l ++ grnL x := by unfold gcs; rw [List.flatMap_append]; simp
theorem ics_snoc (l : List Int) (x : Int) : ics (l ++ [x]) = ics l ++ [.int .i64 x] := by unfold ics; rw [List.map_append]; rfl
/-- what a row that is owned reads as -/
theorem own_cells {w : World} {B e size : Nat} {v : Value} {n : Nat} {xs : List Value} (h : w.ownsRow B e size v n xs) :
    ∃ A c, v = .slice A n c ∧ n ≤ c ∧ (∀ a, A = some a → v.ownBlock = some a.block) ∧ (0 < n → ∃ g, A = some ⟨g, 0, none⟩ ∧ g < w.heap.size ∧ ∀ j, j < n * size → w.cell? ⟨g, j, none⟩ = xs[j]?) := by
  obtain ⟨hl, h1 | ⟨g, cap, cur, rfl, hB, hb, h2⟩⟩ := h
  · obtain ⟨rfl, rfl⟩ := h1
    exact ⟨none, 0, rfl, Nat.le_refl _, (fun a h => by cases h), fun h => absurd h (by omega)⟩
  · refine ⟨_, cap, rfl, h2.1, (fun a h => by cases h; rfl), fun _ => ⟨g, rfl, (Array.getElem?_eq_some_iff.1 hb).1, fun j hj => ?_⟩⟩
    exact World.ownsRow.cellAt ⟨hl, Or.inr ⟨g, cap, cur, rfl, hB, hb, h2⟩⟩ j hj
theorem own_plcs {w : World} {B : Nat} {v : Value} {l : List Pl.Plc} (h : w.ownsRow B 72 5 v l.length (pcs l)) (hf : ∀ i, i < l.length → PlcFits (Pl.plc l i)) :
    ∃ A c, v = .slice A l.length c ∧ l.length ≤ c ∧ (∀ a, A = some a → v.ownBlock = some a.block) ∧ Plcs w A l := by
  obtain ⟨A, c, rfl, hc, hb, hx⟩ := own_cells h
  refine ⟨A, c, rfl, hc, hb, ⟨fun i hi => ?_⟩⟩
  obtain ⟨g, rfl, hg, hcell⟩ := hx (by omega)
  have e : Pl.plc l i = l[i] := by unfold Pl.plc; rw [List.getD_eq_getElem?_getD, List.getElem?_eq_getElem hi]; rfl
  have at_ : ∀ t, t < 5 → w.cell? ⟨g, i * 5 + t, none⟩ = (plcL l[i])[t]? := fun t ht => by
    rw [hcell _ (by omega)]
    exact flat_get plcL 5 (fun _ => rfl) (by omega) l i t hi ht
  refine ⟨g, 0, rfl, hg, hf i hi, ?_⟩
  rw [e, Nat.zero_add]
  exact ⟨at_ 0 (by omega), at_ 1 (by omega), at_ 2 (by omega), at_ 3 (by omega), at_ 4 (by omega)⟩
theorem own_grns {w : World} {B : Nat} {v : Value} {l : List Pl.Grn} (h : w.ownsRow B 75 3 v l.length (gcs l)) :
    ∃ A c, v = .slice A l.length c ∧ l.length ≤ c ∧ (∀ a, A = some a → v.ownBlock = some a.block) ∧ Grns w A l := by
  obtain ⟨A, c, rfl, hc, hb, hx⟩ := own_cells h
  refine ⟨A, c, rfl, hc, hb, ⟨fun i hi => ?_⟩⟩
  obtain ⟨g, rfl, hg, hcell⟩ := hx (by omega)
  have e : Pl.grn l i = l[i] := by unfold Pl.grn; rw [List.getD_eq_getElem?_getD, List.getElem?_eq_getElem hi]; rfl
  have at_ : ∀ t, t < 3 → w.cell? ⟨g, i * 3 + t, none⟩ = (grnL l[i])[t]? := fun t ht => by
    rw [hcell _ (by omega)]
    exact flat_get grnL 3 (fun _ => rfl) (by omega) l i t hi ht
  refine ⟨g, 0, rfl, hg, ?_⟩
  rw [e, Nat.zero_add]
  exact ⟨at_ 0 (by omega), at_ 1 (by omega), at_ 2 (by omega)⟩
theorem own_ints {w : World} {B : Nat} {v : Value} {l : List Int} (h : w.ownsRow B 3 1 v l.length (ics l)) :
    ∃ A c, v = .slice A l.length c ∧ l.length ≤ c ∧ (∀ a, A = some a → v.ownBlock = some a.block) ∧ Ints w A l := by
  obtain ⟨A, c, rfl, hc, hb, hx⟩ := own_cells h
  refine ⟨A, c, rfl, hc, hb, ⟨fun i hi => ?_⟩⟩
  obtain ⟨g, rfl, hg, hcell⟩ := hx (by omega)
  refine ⟨g, 0, rfl, hg, ?_⟩
  rw [Nat.zero_add, hcell i (by omega)]
  unfold ics
  rw [List.getElem?_map, List.getElem?_eq_getElem hi, List.getD_eq_getElem?_getD, List.getElem?_eq_getElem hi]
  rfl
/-- a policy of one's own: its struct in block b, its rows in blocks from B on -/
structure PolOwn (W : World) (B b : Nat) (p : Pl.Pol) (pv sv gv : Value) : Prop where
  box : Cell5 W b (.int .i64 p.work) (.int .i64 p.give) pv sv gv
  fz : ∀ j, W.frozen? ⟨b, j, none⟩ = false
  op : W.ownsRow B 72 5 pv p.places.length (pcs p.places)
  os : W.ownsRow B 3 1 sv p.slots.length (ics p.slots)
  og : W.ownsRow B 75 3 gv p.grants.length (gcs p.grants)
  bB : b < B
  BW : B ≤ W.heap.size
  fits : ∀ i, i < p.places.length → PlcFits (Pl.plc p.places i)
theorem own_ne {W : World} {B e size n k : Nat} {v : Value} {xs : List Value} (h : W.ownsRow B e size v n xs) (hk : k < B) : v.ownBlock = none ∨ v.ownBlock ≠ some k := by
  right
  intro e
  have := (h.lt k e).1
  omega
theorem PolOwn.kept {W W' : World} {B b r : Nat} {p : Pl.Pol} {pv sv gv : Value} (h : PolOwn W B b p pv sv gv) (hg : W.grownBy W' (some r)) (hb : b ≠ r) (h1 : pv.ownBlock ≠ some r) (h2 : sv.ownBlock ≠ some r) (h3 : gv.ownBlock ≠ some r) : PolOwn W' B b p pv sv gv := by
  have hne : some b ≠ some r := by simpa using hb
  have c := h.box
  refine ⟨⟨hg.cell c.c0 hne, hg.cell c.c1 hne, hg.cell c.c2 hne, hg.cell c.c3 hne, hg.cell c.c4 hne⟩, fun j => ?_, h.op.kept hg (.inr h1), h.os.kept hg (.inr h2), h.og.kept hg (.inr h3), h.bB, Nat.le_trans h.BW hg.size, h.fits⟩
  exact (World.frozen?_of_block (a := ⟨b, j, none⟩) (hg.block b c.lt hne)).trans (h.fz j)
theorem PolOwn.on {W W' : World} {B b : Nat} {p : Pl.Pol} {pv sv gv : Value} (h : PolOwn W B b p pv sv gv) (hb : Below W.heap.size W W') : PolOwn W' B b p pv sv gv :=
  h.kept (r := W.heap.size) (gb hb _) (by have := h.box.lt; omega) (fun e => by have := (h.op.lt _ e).2; omega) (fun e => by have := (h.os.lt _ e).2; omega) (fun e => by have := (h.og.lt _ e).2; omega)
/-- while a line is read -/
structure TSt (W : World) (B b r : Nat) (p : Pl.Pol) (pv sv gv : Value) (ws : List (List UInt8)) (code : Nat) : Prop where
  own : PolOwn W B b p pv sv gv
  rd : Rdr W r ws code
  l1 : pv.ownBlock ≠ some r
  l2 : sv.ownBlock ≠ some r
  l3 : gv.ownBlock ≠ some r
  br : b < r
  env : Env W
  e1 : 1 < b
  e2 : 5 < b
  sz : p.size ≤ 99999
theorem TSt.step {W W' : World} {B b r : Nat} {p : Pl.Pol} {pv sv gv : Value} {ws ws' : List (List UInt8)} {code code' : Nat} (h : TSt W B b r p pv sv gv ws code) (hg : W.grownBy W' (some r)) (hR : Rdr W' r ws' code') : TSt W' B b r p pv sv gv ws' code' :=
  ⟨h.own.kept hg (by have := h.br; omega) h.l1 h.l2 h.l3, hR, h.l1, h.l2, h.l3, h.br, h.env.gb hg (by have := h.e1; have := h.br; omega) (by have := h.e2; have := h.br; omega), h.e1, h.e2, h.sz⟩
theorem TSt.on {W W' : World} {B b r : Nat} {p : Pl.Pol} {pv sv gv : Value} {ws : List (List UInt8)} {code : Nat} (h : TSt W B b r p pv sv gv ws code) (hb : Below W.heap.size W W') : TSt W' B b r p pv sv gv ws code :=
  h.step (gb hb _) (h.rd.on hb)
theorem TSt.gl {W : World} {B b r : Nat} {p : Pl.Pol} {pv sv gv : Value} {ws : List (List UInt8)} {code : Nat} (h : TSt W B b r p pv sv gv ws code) : 1 < r ∧ 5 < r := by
  have := h.e1; have := h.e2; have := h.br; omega
theorem g_below {W W' : World} {b r : Nat} (h : W.grownBy W' (some r)) (hb : b ≤ r) (hbW : b ≤ W.heap.size) : Below b W W' :=
  ⟨h.os, h.tape, h.output, h.size, fun k hk => h.block k (by omega) (by simp only [ne_eq, Option.some.injEq]; omega)⟩
def TellPost (B b : Nat) (q : Nat × Pl.Pol) (W : World) (e : Ending) (W' : World) : Prop := e = .returned (.int .i64 (q.1 : Int)) ∧ (q.1 = 0 → ∃ pv sv gv, PolOwn W' B b q.2 pv sv gv) ∧ Below b W W'
theorem fst_0 (c : Nat) : Pl.fst 0 c = c := by unfold Pl.fst; rw [if_pos rfl]
theorem tell_w (p : Pl.Pol) (x : List UInt8) (xs : List (List UInt8)) : Pl.tell p Pl.wWork (x :: xs) = ((Pl.num Pl.small x).2, { p with work := ((Pl.num Pl.small x).1 : Int) }) := rfl
theorem tell_g (p : Pl.Pol) (x : List UInt8) (xs : List (List UInt8)) : Pl.tell p Pl.wGive (x :: xs) = ((Pl.num Pl.small x).2, { p with give := ((Pl.num Pl.small x).1 : Int) }) := by
  unfold Pl.tell; rw [if_neg (by decide), if_pos rfl]; rfl
theorem PolOwn.work {W : World} {B b : Nat} {p : Pl.Pol} {pv sv gv : Value} (h : PolOwn W B b p pv sv gv) (n : Int) : PolOwn (W.setCell ⟨b, 0, none⟩ (.int .i64 n)) B b { p with work := n } pv sv gv := by
  have c := h.box
  have hg := only_set W b 0 (.int .i64 n)
  refine ⟨⟨World.cell?_setCell_same W ⟨b, 0, none⟩ _ c.c0, (World.cell?_setCell_other W ⟨b, 0, none⟩ ⟨b, 1, none⟩ _ (ne_at b 0 1 (by decide))).trans c.c1, (World.cell?_setCell_other W ⟨b, 0, none⟩ ⟨b, 2, none⟩ _ (ne_at b 0 2 (by decide))).trans c.c2, (World.cell?_setCell_other W ⟨b, 0, none⟩ ⟨b, 3, none⟩ _ (ne_at b 0 3 (by decide))).trans c.c3, (World.cell?_setCell_other W ⟨b, 0, none⟩ ⟨b, 4, none⟩ _ (ne_at b 0 4 (by decide))).trans c.c4⟩, fun j => ?_, h.op.kept hg (own_ne h.op h.bB), h.os.kept hg (own_ne h.os h.bB), h.og.kept hg (own_ne h.og h.bB), h.bB, Nat.le_trans h.BW hg.size, h.fits⟩
  rw [World.frozen?_setCell]; exact h.fz j
theorem PolOwn.give {W : World} {B b : Nat} {p : Pl.Pol} {pv sv gv : Value} (h : PolOwn W B b p pv sv gv) (n : Int) : PolOwn (W.setCell ⟨b, 1, none⟩ (.int .i64 n)) B b { p with give := n } pv sv gv := by
  have c := h.box
  have hg := only_set W b 1 (.int .i64 n)
  refine ⟨⟨(World.cell?_setCell_other W ⟨b, 1, none⟩ ⟨b, 0, none⟩ _ (ne_at b 1 0 (by decide))).trans c.c0, World.cell?_setCell_same W ⟨b, 1, none⟩ _ c.c1, (World.cell?_setCell_other W ⟨b, 1, none⟩ ⟨b, 2, none⟩ _ (ne_at b 1 2 (by decide))).trans c.c2, (World.cell?_setCell_other W ⟨b, 1, none⟩ ⟨b, 3, none⟩ _ (ne_at b 1 3 (by decide))).trans c.c3, (World.cell?_setCell_other W ⟨b, 1, none⟩ ⟨b, 4, none⟩ _ (ne_at b 1 4 (by decide))).trans c.c4⟩, fun j => ?_, h.op.kept hg (own_ne h.op h.bB), h.os.kept hg (own_ne h.os h.bB), h.og.kept hg (own_ne h.og h.bB), h.bB, Nat.le_trans h.BW hg.size, h.fits⟩
  rw [World.frozen?_setCell]; exact h.fz j
theorem rdr_cd_far {W : World} {r : Nat} {ws : List (List UInt8)} {code : Nat} (h : Rdr W r ws code) {b : Nat} (hb : b ≠ r) (i : Nat) (v : Value) : (W.setCell ⟨b, i, none⟩ v).cell? ⟨r, 1, none⟩ = some (.int .i64 (code : Int)) := by
  refine (World.cell?_setCell_other W ⟨b, i, none⟩ ⟨r, 1, none⟩ v (fun e => hb (congrArg Addr.block e))).trans h.cd
set_option maxHeartbeats 1000000 in
theorem tell_work (B b r : Nat) (p : Pl.Pol) (pv sv gv : Value) (x : List UInt8) (xs : List (List UInt8)) (W : World) (h : TSt W B b r p pv sv gv (x :: xs) 0) (hx : x.length ≤ 100000) :
    Calls Tryz.prog 80 #[.pointer (some ⟨b, 0, none⟩), .string ⟨#[119, 111, 114, 107]⟩, .pointer (some ⟨r, 0, none⟩)] W (TellPost B b (Pl.tell p Pl.wWork (x :: xs)) W) := by
  have HS := Lib.hid h
  have HN := Lib.hid (rSmall_any r x xs 0 W h.rd hx h.env h.gl)
  have HQ := Lib.hid (tell_w p x xs)
  have hbr := h.br
  clear h
  generalize Pl.tell p Pl.wWork (x :: xs) = Q at *
  generalize Pl.num Pl.small x = M at *
  obtain ⟨n, c2⟩ := M
  rw [fst_0] at HN
  simp only at *
  go_enter Tryz.func80, Tryz.ntmps80
  go_wp2_with fail
  with_reducible refine HN.out.mono ?_
  rintro e W1 ⟨rfl, hR, hg⟩
  have HS1 := Lib.hid (HS.out.step hg hR)
  have HB1 := Lib.hid (g_below hg (show b ≤ r by omega) (by have := HS.out.own.box.lt; omega))
  clear hR hg
  have hbl := HS1.out.own.box.lt
  have hfz := HS1.out.own.fz 0
  have hc0 := HS1.out.own.box.c0
  have hcd := rdr_cd_far HS1.out.rd (show b ≠ r by omega) 0 (.int .i64 (n : Int))
  have hrl := HS1.out.rd.lt
  go_wp2_with fail
  go_ret
  exact ⟨by rw [HQ.out]; rfl, fun _ => ⟨pv, sv, gv, by rw [HQ.out]; exact HS1.out.own.work _⟩, HB1.out.setCell (Nat.le_refl _) _⟩
set_option maxHeartbeats 1000000 in
theorem tell_give (B b r : Nat) (p : Pl.Pol) (pv sv gv : Value) (x : List UInt8) (xs : List (List UInt8)) (W : World) (h : TSt W B b r p pv sv gv (x :: xs) 0) (hx : x.length ≤ 100000) :
    Calls Tryz.prog 80 #[.pointer (some ⟨b, 0, none⟩), .string ⟨#[103, 105, 118, 101]⟩, .pointer (some ⟨r, 0, none⟩)] W (TellPost B b (Pl.tell p Pl.wGive (x :: xs)) W) := by
  have HS := Lib.hid h
  have HN := Lib.hid (rSmall_any r x xs 0 W h.rd hx h.env h.gl)
  have HQ := Lib.hid (tell_g p x xs)
  have hbr := h.br
  clear h
  generalize Pl.tell p Pl.wGive (x :: xs) = Q at *
  generalize Pl.num Pl.small x = M at *
  obtain ⟨n, c2⟩ := M
  rw [fst_0] at HN
  simp only at *
  go_enter Tryz.func80, Tryz.ntmps80
  go_wp2_with fail
  with_reducible refine HN.out.mono ?_
  rintro e W1 ⟨rfl, hR, hg⟩
  have HS1 := Lib.hid (HS.out.step hg hR)
  have HB1 := Lib.hid (g_below hg (show b ≤ r by omega) (by have := HS.out.own.box.lt; omega))
  clear hR hg
  have hbl := HS1.out.own.box.lt
  have hfz := HS1.out.own.fz 1
  have hc0 := HS1.out.own.box.c1
  have hcd := rdr_cd_far HS1.out.rd (show b ≠ r by omega) 1 (.int .i64 (n : Int))
  have hrl := HS1.out.rd.lt
  go_wp2_with fail
  go_ret
  exact ⟨by rw [HQ.out]; rfl, fun _ => ⟨pv, sv, gv, by rw [HQ.out]; exact HS1.out.own.give _⟩, HB1.out.setCell (Nat.le_refl _) _⟩
end Go.Proofs.YtokljdaofjgihaaGreatDoor
