/-
  WHAT A LINE TELLS, walked: the program's: a label.
-/
import Derived.Test.YtokljdaofjgihaaGreatDoorParE
namespace Go.Proofs.YtokljdaofjgihaaGreatDoor
open Go.ChangeShapes Go.WideShapes Go.ChangeAt Go.RowKit

theorem Cell5.set0 {W : World} {q : Nat} {x0 x1 x2 x3 x4 : Value} (h : Cell5 W q x0 x1 x2 x3 x4) (v : Value) : Cell5 (W.setCell ⟨q, 0, none⟩ v) q v x1 x2 x3 x4 :=
  ⟨World.cell?_setCell_same W ⟨q, 0, none⟩ _ h.c0, (World.cell?_setCell_other W ⟨q, 0, none⟩ ⟨q, 1, none⟩ _ (ne_at q 0 1 (by decide))).trans h.c1, (World.cell?_setCell_other W ⟨q, 0, none⟩ ⟨q, 2, none⟩ _ (ne_at q 0 2 (by decide))).trans h.c2, (World.cell?_setCell_other W ⟨q, 0, none⟩ ⟨q, 3, none⟩ _ (ne_at q 0 3 (by decide))).trans h.c3, (World.cell?_setCell_other W ⟨q, 0, none⟩ ⟨q, 4, none⟩ _ (ne_at q 0 4 (by decide))).trans h.c4⟩
theorem Cell5.set1 {W : World} {q : Nat} {x0 x1 x2 x3 x4 : Value} (h : Cell5 W q x0 x1 x2 x3 x4) (v : Value) : Cell5 (W.setCell ⟨q, 1, none⟩ v) q x0 v x2 x3 x4 :=
  ⟨(World.cell?_setCell_other W ⟨q, 1, none⟩ ⟨q, 0, none⟩ _ (ne_at q 1 0 (by decide))).trans h.c0, World.cell?_setCell_same W ⟨q, 1, none⟩ _ h.c1, (World.cell?_setCell_other W ⟨q, 1, none⟩ ⟨q, 2, none⟩ _ (ne_at q 1 2 (by decide))).trans h.c2, (World.cell?_setCell_other W ⟨q, 1, none⟩ ⟨q, 3, none⟩ _ (ne_at q 1 3 (by decide))).trans h.c3, (World.cell?_setCell_other W ⟨q, 1, none⟩ ⟨q, 4, none⟩ _ (ne_at q 1 4 (by decide))).trans h.c4⟩
theorem Cell5.set2 {W : World} {q : Nat} {x0 x1 x2 x3 x4 : Value} (h : Cell5 W q x0 x1 x2 x3 x4) (v : Value) : Cell5 (W.setCell ⟨q, 2, none⟩ v) q x0 x1 v x3 x4 :=
  ⟨(World.cell?_setCell_other W ⟨q, 2, none⟩ ⟨q, 0, none⟩ _ (ne_at q 2 0 (by decide))).trans h.c0, (World.cell?_setCell_other W ⟨q, 2, none⟩ ⟨q, 1, none⟩ _ (ne_at q 2 1 (by decide))).trans h.c1, World.cell?_setCell_same W ⟨q, 2, none⟩ _ h.c2, (World.cell?_setCell_other W ⟨q, 2, none⟩ ⟨q, 3, none⟩ _ (ne_at q 2 3 (by decide))).trans h.c3, (World.cell?_setCell_other W ⟨q, 2, none⟩ ⟨q, 4, none⟩ _ (ne_at q 2 4 (by decide))).trans h.c4⟩
theorem Cell5.set3 {W : World} {q : Nat} {x0 x1 x2 x3 x4 : Value} (h : Cell5 W q x0 x1 x2 x3 x4) (v : Value) : Cell5 (W.setCell ⟨q, 3, none⟩ v) q x0 x1 x2 v x4 :=
  ⟨(World.cell?_setCell_other W ⟨q, 3, none⟩ ⟨q, 0, none⟩ _ (ne_at q 3 0 (by decide))).trans h.c0, (World.cell?_setCell_other W ⟨q, 3, none⟩ ⟨q, 1, none⟩ _ (ne_at q 3 1 (by decide))).trans h.c1, (World.cell?_setCell_other W ⟨q, 3, none⟩ ⟨q, 2, none⟩ _ (ne_at q 3 2 (by decide))).trans h.c2, World.cell?_setCell_same W ⟨q, 3, none⟩ _ h.c3, (World.cell?_setCell_other W ⟨q, 3, none⟩ ⟨q, 4, none⟩ _ (ne_at q 3 4 (by decide))).trans h.c4⟩
theorem Cell5.set4 {W : World} {q : Nat} {x0 x1 x2 x3 x4 : Value} (h : Cell5 W q x0 x1 x2 x3 x4) (v : Value) : Cell5 (W.setCell ⟨q, 4, none⟩ v) q x0 x1 x2 x3 v :=
  ⟨(World.cell?_setCell_other W ⟨q, 4, none⟩ ⟨q, 0, none⟩ _ (ne_at q 4 0 (by decide))).trans h.c0, (World.cell?_setCell_other W ⟨q, 4, none⟩ ⟨q, 1, none⟩ _ (ne_at q 4 1 (by decide))).trans h.c1, (World.cell?_setCell_other W ⟨q, 4, none⟩ ⟨q, 2, none⟩ _ (ne_at q 4 2 (by decide))).trans h.c2, (World.cell?_setCell_other W ⟨q, 4, none⟩ ⟨q, 3, none⟩ _ (ne_at q 4 3 (by decide))).trans h.c3, World.cell?_setCell_same W ⟨q, 4, none⟩ _ h.c4⟩
/-- while a label's line is read: the place so far lies in block q -/
structure LSt (W : World) (B b r : Nat) (p : Pl.Pol) (pv sv gv : Value) (ws : List (List UInt8)) (code q : Nat) (x0 x1 x2 x3 x4 : Value) : Prop where
  t : TSt W B b r p pv sv gv ws code
  c : Cell5 W q x0 x1 x2 x3 x4
  f : ∀ j, W.frozen? ⟨q, j, none⟩ = false
  rq : r < q
  Bq : B ≤ q
  n1 : pv.ownBlock ≠ some q
  n2 : sv.ownBlock ≠ some q
  n3 : gv.ownBlock ≠ some q
theorem LSt.step {W W' : World} {B b r : Nat} {p : Pl.Pol} {pv sv gv : Value} {ws ws' : List (List UInt8)} {code code' q : Nat} {x0 x1 x2 x3 x4 : Value} (h : LSt W B b r p pv sv gv ws code q x0 x1 x2 x3 x4) (hg : W.grownBy W' (some r)) (hR : Rdr W' r ws' code') : LSt W' B b r p pv sv gv ws' code' q x0 x1 x2 x3 x4 := by
  have hne : some q ≠ some r := by have := h.rq; simp only [ne_eq, Option.some.injEq]; omega
  have c := h.c
  exact ⟨h.t.step hg hR, ⟨hg.cell c.c0 hne, hg.cell c.c1 hne, hg.cell c.c2 hne, hg.cell c.c3 hne, hg.cell c.c4 hne⟩, fun j => (World.frozen?_of_block (a := ⟨q, j, none⟩) (hg.block q c.lt hne)).trans (h.f j), h.rq, h.Bq, h.n1, h.n2, h.n3⟩
theorem TSt.far {W : World} {B b r : Nat} {p : Pl.Pol} {pv sv gv : Value} {ws : List (List UInt8)} {code : Nat} (h : TSt W B b r p pv sv gv ws code) {q : Nat} (hq : r < q) (n1 : pv.ownBlock ≠ some q) (n2 : sv.ownBlock ≠ some q) (n3 : gv.ownBlock ≠ some q) (i : Nat) (v : Value) : TSt (W.setCell ⟨q, i, none⟩ v) B b r p pv sv gv ws code := by
  have hg := only_set W q i v
  have := h.br; have e1 := h.e1; have e2 := h.e2
  exact ⟨h.own.kept hg (by omega) n1 n2 n3, rdr_far h.rd hq i v, h.l1, h.l2, h.l3, h.br, h.env.gb hg (by omega) (by omega), h.e1, h.e2, h.sz⟩
theorem LSt.put {W : World} {B b r : Nat} {p : Pl.Pol} {pv sv gv : Value} {ws : List (List UInt8)} {code q : Nat} {x0 x1 x2 x3 x4 : Value} (h : LSt W B b r p pv sv gv ws code q x0 x1 x2 x3 x4) (i : Nat) (v : Value) {y0 y1 y2 y3 y4 : Value} (hc : Cell5 (W.setCell ⟨q, i, none⟩ v) q y0 y1 y2 y3 y4) : LSt (W.setCell ⟨q, i, none⟩ v) B b r p pv sv gv ws code q y0 y1 y2 y3 y4 :=
  ⟨h.t.far h.rq h.n1 h.n2 h.n3 i v, hc, (fun j => by rw [World.frozen?_setCell]; exact h.f j), h.rq, h.Bq, h.n1, h.n2, h.n3⟩
theorem LSt.new {W : World} {B b r : Nat} {p : Pl.Pol} {pv sv gv : Value} {ws : List (List UInt8)} {code : Nat} (h : TSt W B b r p pv sv gv ws code) (x0 x1 x2 x3 x4 : Value) (t : TypeId) : LSt (W.alloc (.cells #[x0, x1, x2, x3, x4] t)) B b r p pv sv gv ws code W.heap.size x0 x1 x2 x3 x4 := by
  have hs : Below W.heap.size W (W.alloc (.cells #[x0, x1, x2, x3, x4] t)) := (Below.refl _ _).alloc (Nat.le_refl _) _
  refine ⟨h.on hs, Cell5.new W x0 x1 x2 x3 x4 t, fun j => ?_, h.rd.lt, h.own.BW, fun e => ?_, fun e => ?_, fun e => ?_⟩
  · simp
  · have := (h.own.op.lt _ e).2; omega
  · have := (h.own.os.lt _ e).2; omega
  · have := (h.own.og.lt _ e).2; omega
theorem own_places {W w1 : World} {B b : Nat} {p : Pl.Pol} {pv sv gv v' : Value} {x : Pl.Plc} (h : PolOwn W B b p pv sv gv) (hx : PlcFits x) (hg : W.grownBy w1 pv.ownBlock) (ho : w1.ownsRow B 72 5 v' (p.places.length + 1) (pcs p.places ++ plcL x)) :
    PolOwn (w1.setCell ⟨b, 2, none⟩ v') B b { p with places := p.places ++ [x] } v' sv gv := by
  have c := h.box
  have hne : some b ≠ pv.ownBlock := by
    rcases own_ne h.op h.bB with e | e
    · rw [e]; simp
    · exact fun q => e q.symm
  have g2 := only_set w1 b 2 v'
  have hb : b < B := h.bB
  have ho' : w1.ownsRow B 72 5 v' (p.places ++ [x]).length (pcs (p.places ++ [x])) := by rw [List.length_append, pcs_snoc]; exact ho
  have os1 := h.os.kept hg (own_types h.os h.op (by decide))
  have og1 := h.og.kept hg (own_types h.og h.op (by decide))
  refine ⟨Cell5.set2 ⟨hg.cell c.c0 hne, hg.cell c.c1 hne, hg.cell c.c2 hne, hg.cell c.c3 hne, hg.cell c.c4 hne⟩ v', fun j => ?_, ho'.kept g2 (own_ne ho' hb), os1.kept g2 (own_ne os1 hb), og1.kept g2 (own_ne og1 hb), hb, Nat.le_trans h.BW (Nat.le_trans hg.size g2.size), fun i hi => ?_⟩
  · rw [World.frozen?_setCell]
    exact (World.frozen?_of_block (a := ⟨b, j, none⟩) (hg.block b c.lt hne)).trans (h.fz j)
  · simp only [List.length_append, List.length_singleton] at hi
    unfold Pl.plc
    simp only
    by_cases e : i < p.places.length
    · rw [List.getD_eq_getElem?_getD, List.getElem?_append_left e, ← List.getD_eq_getElem?_getD]
      exact h.fits i e
    · obtain rfl : i = p.places.length := by omega
      rw [List.getD_eq_getElem?_getD, List.getElem?_append_right (Nat.le_refl _), Nat.sub_self]
      exact hx
theorem rNumber_max (r : Nat) (x : List UInt8) (xs : List (List UInt8)) (code : Nat) (W : World) (h : Rdr W r (x :: xs) code) (hx : x.length ≤ 100000) (hE : Env W) (hr : 1 < r ∧ 5 < r) :
    Calls Tryz.prog 108 #[.pointer (some ⟨r, 0, none⟩), .int .u64 18446744073709551615] W fun e W' => e = .returned (.int .u64 ((Pl.num Pl.most x).1 : Int)) ∧ Rdr W' r xs (Pl.fst code (Pl.num Pl.most x).2) ∧ W.grownBy W' (some r) :=
  rNumber_any r Pl.most x xs code W h hx (by decide) hE hr
theorem tell_l (p : Pl.Pol) (nm lb bt ba : List UInt8) : Pl.tell p Pl.wLabel [nm, lb, bt, ba] = (Pl.fst (Pl.fst (Lat.parse lb).2.2 (Pl.num Pl.small bt).2) (Pl.num Pl.most ba).2,
    { p with places := p.places ++ [⟨nm, (Lat.parse lb).1, (Lat.parse lb).2.1, ((Pl.num Pl.small bt).1 : Int), (Pl.num Pl.most ba).1⟩] }) := by
  unfold Pl.tell; rw [if_neg (by decide), if_neg (by decide), if_pos rfl]; rfl
theorem undrew {W w1 : World} {row : Option Nat} (h : W.drew.grownBy w1 row) : W.grownBy w1 row := ⟨h.os, h.tape, h.output, h.size, h.block⟩
theorem info72 : (Tryz.prog.info? 72).map (fun i => (i.zero, i.size, i.bytes)) = some (some (.agg #[.string ⟨#[]⟩, .int .u8 0, .int .u32 0, .int .i64 0, .int .u64 0]), 5, 40) := by kernel_rfl
set_option maxRecDepth 100000 in
set_option maxHeartbeats 8000000 in
theorem tell_label (B b r : Nat) (p : Pl.Pol) (pv sv gv : Value) (nm lb bt ba : List UInt8) (W : World) (h : TSt W B b r p pv sv gv [nm, lb, bt, ba] 0) (h1 : nm.length ≤ 100000) (h2 : lb.length ≤ 100000) (h3 : bt.length ≤ 100000) (h4 : ba.length ≤ 100000) :
    Calls Tryz.prog 80 #[.pointer (some ⟨b, 0, none⟩), .string ⟨#[108, 97, 98, 101, 108]⟩, .pointer (some ⟨r, 0, none⟩)] W (TellPost B b (Pl.tell p Pl.wLabel [nm, lb, bt, ba]) W) := by
  have HL0 := Lib.hid (LSt.new h (.string ⟨#[]⟩) (.int .u8 0) (.int .u32 0) (.int .i64 0) (.int .u64 0) 72)
  have HQ := Lib.hid (tell_l p nm lb bt ba)
  have hsz := h.sz
  unfold Pl.Pol.size at hsz
  have hbr := h.br
  have hrW := h.rd.lt
  have HBW := Lib.hid h.own.BW
  have hbB := h.own.bB
  have HN1 := Lib.hid (fun W h => rWord_any r nm [lb, bt, ba] 0 W h)
  have HN2 := Lib.hid (fun W h => rLabel_any r lb [bt, ba] 0 W h h2)
  have HN3 := Lib.hid (fun c W (h : Rdr W r [bt, ba] c) hE hr => rSmall_any r bt [ba] c W h h3 hE hr)
  have HN4 := Lib.hid (fun c W (h : Rdr W r [ba] c) hE hr => rNumber_max r ba [] c W h h4 hE hr)
  have hpb := Lat.parse_bound lb
  obtain ⟨i0, hi0, hz0, hz1, hz2⟩ := info_parts info72
  clear h
  generalize Pl.tell p Pl.wLabel [nm, lb, bt, ba] = Q at *
  generalize Lat.parse lb = LP at *
  generalize Pl.num Pl.small bt = NB at *
  generalize Pl.num Pl.most ba = NA at *
  obtain ⟨lv, st, k1⟩ := LP
  obtain ⟨nb, k2⟩ := NB
  obtain ⟨na, k3⟩ := NA
  rw [fst_0] at HN2
  simp only at *
  have HRG := Lib.hid (show 1 < r ∧ 5 < r from HL0.out.t.gl)
  have HB0 := Lib.hid (show Below b W (W.alloc (.cells #[.string ⟨#[]⟩, .int .u8 0, .int .u32 0, .int .i64 0, .int .u64 0] 72)) from (Below.refl _ _).alloc (by omega) _)
  go_enter Tryz.func80, Tryz.ntmps80
  go_wp2_with fail
  with_reducible refine (HN1.out _ HL0.out.t.rd).mono ?_
  rintro e W1 ⟨rfl, hR, hg⟩
  have HL1 := Lib.hid (HL0.out.step hg hR)
  have HB1 := Lib.hid (HB0.out.trans (g_below hg (by omega) (by simp; omega)))
  have k0 := HL1.out.c.c0
  have kf := HL1.out.f 0
  have ql := HL1.out.c.lt
  clear hR hg
  have HP1 := Lib.hid (HL1.out.put 0 (.string (ofL nm)) (HL1.out.c.set0 _))
  have HC1 := Lib.hid (HB1.out.setCell (p := ⟨W.heap.size, 0, none⟩) (by simp only; omega) (.string (ofL nm)))
  go_wp2_with fail
  with_reducible refine (HN2.out _ HP1.out.t.rd).mono ?_
  rintro e W2 ⟨rfl, hR, hg⟩
  have HL2 := Lib.hid (HP1.out.step hg hR)
  have HB2 := Lib.hid (HC1.out.trans (g_below hg (by omega) (by have := HP1.out.t.rd.lt; omega)))
  clear k0 kf ql hR hg
  have k1 := HL2.out.c.c1
  have k2 := HL2.out.c.c2
  have kf1 := HL2.out.f 1
  have kf2 := HL2.out.f 2
  have ql := HL2.out.c.lt
  have HP2 := Lib.hid ((HL2.out.put 1 (.int .u8 (lv : Int)) (HL2.out.c.set1 _)).put 2 (.int .u32 (st : Int)) ((HL2.out.c.set1 _).set2 _))
  have HC2 := Lib.hid ((HB2.out.setCell (p := ⟨W.heap.size, 1, none⟩) (by simp only; omega) (.int .u8 (lv : Int))).setCell (p := ⟨W.heap.size, 2, none⟩) (by simp only; omega) (.int .u32 (st : Int)))
  go_wp2_with fail
  with_reducible refine (HN3.out _ _ HP2.out.t.rd HP2.out.t.env HRG.out).mono ?_
  rintro e W3 ⟨rfl, hR, hg⟩
  have HL3 := Lib.hid (HP2.out.step hg hR)
  have HB3 := Lib.hid (HC2.out.trans (g_below hg (by omega) (by have := HP2.out.t.rd.lt; omega)))
  clear k1 k2 kf1 kf2 ql hR hg
  have k3 := HL3.out.c.c3
  have kf3 := HL3.out.f 3
  have ql := HL3.out.c.lt
  have HP3 := Lib.hid (HL3.out.put 3 (.int .i64 (nb : Int)) (HL3.out.c.set3 _))
  have HC3 := Lib.hid (HB3.out.setCell (p := ⟨W.heap.size, 3, none⟩) (by simp only; omega) (.int .i64 (nb : Int)))
  go_wp2_with fail
  with_reducible refine (HN4.out _ _ HP3.out.t.rd HP3.out.t.env HRG.out).mono ?_
  rintro e W4 ⟨rfl, hR, hg⟩
  have HL4 := Lib.hid (HP3.out.step hg hR)
  have HB4 := Lib.hid (HC3.out.trans (g_below hg (by omega) (by have := HP3.out.t.rd.lt; omega)))
  clear k3 kf3 ql hR hg
  have k4 := HL4.out.c.c4
  have kf4 := HL4.out.f 4
  have ql := HL4.out.c.lt
  have HP4 := Lib.hid (HL4.out.put 4 (.int .u64 (na : Int)) (HL4.out.c.set4 _))
  have HC4 := Lib.hid (HB4.out.setCell (p := ⟨W.heap.size, 4, none⟩) (by simp only; omega) (.int .u64 (na : Int)))
  go_wp2_with fail
  obtain ⟨W5, hW5⟩ : ∃ W5, W5 = W4.setCell ⟨W.heap.size, 4, none⟩ (.int .u64 (na : Int)) := ⟨_, rfl⟩
  rw [← hW5] at HP4 HC4 ⊢
  clear hW5 k4 kf4 ql
  have hos := HP4.out.t.own.op
  have hBW := HP4.out.t.own.BW
  have mbl := HP4.out.t.own.box.lt
  have ql := HP4.out.c.lt
  obtain ⟨c0, c1, c2, c3, c4⟩ := HP4.out.c
  obtain ⟨m0, m1, m2, m3, m4⟩ := HP4.out.t.own.box
  go_region_law (first
    | (refine step_append_lies _ (by rfl) _ _ _ (by rfl) B 72 i0 _ 5 40 Tryz.underlying22 hi0 hz0 hz1 hz2 rfl (by omega) pv p.places.length (pcs p.places) (by rfl) ((hos.alloc _).drew) ⟨W5.heap.size, 0, none⟩ 1 1 [.string (ofL nm), .int .u8 (lv : Int), .int .u32 (st : Int), .int .i64 (nb : Int), .int .u64 (na : Int)] (by rfl) (by rfl) (World.news_of_block (cs := #[.string (ofL nm), .int .u8 (lv : Int), .int .u32 (st : Int), .int .i64 (nb : Int), .int .u64 (na : Int)]) (t := 72) (fr := (0, 0)) (heap_alloc_new W5 _)) (by simp [Value.oneCell']) (by omega) (by unfold maxLen; omega) (by omega) (by simp; omega) (W5.heap.size + 1) (by simp) ?_; intro gg cap w1 hown1 hgrow hat hlt; obtain ⟨⟨k0, k1, k2, k3, k4⟩, kf, kr⟩ := app_facts HP4.out.t _ (undrew hgrow) (own_row HP4.out.t.own.op HP4.out.t.own.bB) HP4.out.t.l1; have kf2 := kf 2; have kl := World.block_lt_of_cell? w1 _ k2; have krl := World.block_lt_of_cell? w1 _ kr; simp only at kl krl; have HG := Lib.hid (undrew hgrow); have HO := Lib.hid hown1; clear hgrow hown1 kf))
  all_goals
    clear hos hBW mbl ql c0 c1 c2 c3 c4 m0 m1 m2 m3 m4 hat hlt k0 k1 k3 k4
    have hcd := (World.cell?_setCell_other w1 ⟨b, 2, none⟩ ⟨r, 1, none⟩ (.slice (some ⟨gg, 0, none⟩) (p.places.length + 1) cap) (fun e => absurd (congrArg Addr.block e) (by simp only; omega))).trans kr
    go_wp2_with fail
    go_ret
    have hs : Below W5.heap.size W5 (W5.alloc (.cells #[.string (ofL nm), .int .u8 (lv : Int), .int .u32 (st : Int), .int .i64 (nb : Int), .int .u64 (na : Int)] 72)) := (Below.refl _ _).alloc (Nat.le_refl _) _
    have k := HP4.out.t.on hs
    refine ⟨by rw [HQ.out]; rfl, fun _ => ⟨_, _, _, by rw [HQ.out]; exact own_places k.own ⟨h1, hpb.2.1⟩ HG.out HO.out⟩, ?_⟩
    have b2 : Below b W5 w1 := (hs.mono (by have := HP4.out.t.own.box.lt; omega)).trans (own_below HG.out HP4.out.t.own.bB (by have := k.own.box.lt; omega) (fun q hq => (k.own.op.lt q hq).1))
    exact (HC4.out.trans b2).setCell (Nat.le_refl _) _
end Go.Proofs.YtokljdaofjgihaaGreatDoor
