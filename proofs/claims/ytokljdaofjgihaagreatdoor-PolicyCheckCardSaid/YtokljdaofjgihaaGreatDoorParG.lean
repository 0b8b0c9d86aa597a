/-
  WHAT A LINE TELLS, walked: the program's: a grant.
-/
import Derived.Test.YtokljdaofjgihaaGreatDoorParF
namespace Go.Proofs.YtokljdaofjgihaaGreatDoor
open Go.ChangeShapes Go.WideShapes Go.ChangeAt Go.RowKit

structure Cell3 (w : World) (b : Nat) (x0 x1 x2 : Value) : Prop where
  c0 : w.cell? ⟨b, 0, none⟩ = some x0
  c1 : w.cell? ⟨b, 1, none⟩ = some x1
  c2 : w.cell? ⟨b, 2, none⟩ = some x2
theorem Cell3.new (w : World) (x0 x1 x2 : Value) (t : TypeId) : Cell3 (w.alloc (.cells #[x0, x1, x2] t)) w.heap.size x0 x1 x2 := by constructor <;> simp
theorem Cell3.lt {w : World} {b : Nat} {x0 x1 x2 : Value} (h : Cell3 w b x0 x1 x2) : b < w.heap.size := World.block_lt_of_cell? w _ h.c0
theorem Cell3.set0 {W : World} {q : Nat} {x0 x1 x2 : Value} (h : Cell3 W q x0 x1 x2) (v : Value) : Cell3 (W.setCell ⟨q, 0, none⟩ v) q v x1 x2 :=
  ⟨World.cell?_setCell_same W ⟨q, 0, none⟩ _ h.c0, (World.cell?_setCell_other W ⟨q, 0, none⟩ ⟨q, 1, none⟩ _ (ne_at q 0 1 (by decide))).trans h.c1, (World.cell?_setCell_other W ⟨q, 0, none⟩ ⟨q, 2, none⟩ _ (ne_at q 0 2 (by decide))).trans h.c2⟩
theorem Cell3.set1 {W : World} {q : Nat} {x0 x1 x2 : Value} (h : Cell3 W q x0 x1 x2) (v : Value) : Cell3 (W.setCell ⟨q, 1, none⟩ v) q x0 v x2 :=
  ⟨(World.cell?_setCell_other W ⟨q, 1, none⟩ ⟨q, 0, none⟩ _ (ne_at q 1 0 (by decide))).trans h.c0, World.cell?_setCell_same W ⟨q, 1, none⟩ _ h.c1, (World.cell?_setCell_other W ⟨q, 1, none⟩ ⟨q, 2, none⟩ _ (ne_at q 1 2 (by decide))).trans h.c2⟩
theorem Cell3.set2 {W : World} {q : Nat} {x0 x1 x2 : Value} (h : Cell3 W q x0 x1 x2) (v : Value) : Cell3 (W.setCell ⟨q, 2, none⟩ v) q x0 x1 v :=
  ⟨(World.cell?_setCell_other W ⟨q, 2, none⟩ ⟨q, 0, none⟩ _ (ne_at q 2 0 (by decide))).trans h.c0, (World.cell?_setCell_other W ⟨q, 2, none⟩ ⟨q, 1, none⟩ _ (ne_at q 2 1 (by decide))).trans h.c1, World.cell?_setCell_same W ⟨q, 2, none⟩ _ h.c2⟩
/-- while a grant's line is read: the grant so far lies in block q -/
structure RSt (W : World) (B b r : Nat) (p : Pl.Pol) (pv sv gv : Value) (ws : List (List UInt8)) (code q : Nat) (x0 x1 x2 : Value) : Prop where
  t : TSt W B b r p pv sv gv ws code
  c : Cell3 W q x0 x1 x2
  f : ∀ j, W.frozen? ⟨q, j, none⟩ = false
  rq : r < q
  n1 : pv.ownBlock ≠ some q
  n2 : sv.ownBlock ≠ some q
  n3 : gv.ownBlock ≠ some q
theorem RSt.step {W W' : World} {B b r : Nat} {p : Pl.Pol} {pv sv gv : Value} {ws ws' : List (List UInt8)} {code code' q : Nat} {x0 x1 x2 : Value} (h : RSt W B b r p pv sv gv ws code q x0 x1 x2) (hg : W.grownBy W' (some r)) (hR : Rdr W' r ws' code') : RSt W' B b r p pv sv gv ws' code' q x0 x1 x2 := by
  have hne : some q ≠ some r := by have := h.rq; simp only [ne_eq, Option.some.injEq]; omega
  have c := h.c
  exact ⟨h.t.step hg hR, ⟨hg.cell c.c0 hne, hg.cell c.c1 hne, hg.cell c.c2 hne⟩, fun j => (World.frozen?_of_block (a := ⟨q, j, none⟩) (hg.block q c.lt hne)).trans (h.f j), h.rq, h.n1, h.n2, h.n3⟩
theorem RSt.put {W : World} {B b r : Nat} {p : Pl.Pol} {pv sv gv : Value} {ws : List (List UInt8)} {code q : Nat} {x0 x1 x2 : Value} (h : RSt W B b r p pv sv gv ws code q x0 x1 x2) (i : Nat) (v : Value) {y0 y1 y2 : Value} (hc : Cell3 (W.setCell ⟨q, i, none⟩ v) q y0 y1 y2) : RSt (W.setCell ⟨q, i, none⟩ v) B b r p pv sv gv ws code q y0 y1 y2 :=
  ⟨h.t.far h.rq h.n1 h.n2 h.n3 i v, hc, (fun j => by rw [World.frozen?_setCell]; exact h.f j), h.rq, h.n1, h.n2, h.n3⟩
theorem RSt.new {W : World} {B b r : Nat} {p : Pl.Pol} {pv sv gv : Value} {ws : List (List UInt8)} {code : Nat} (h : TSt W B b r p pv sv gv ws code) (x0 x1 x2 : Value) (t : TypeId) : RSt (W.alloc (.cells #[x0, x1, x2] t)) B b r p pv sv gv ws code W.heap.size x0 x1 x2 := by
  have hs : Below W.heap.size W (W.alloc (.cells #[x0, x1, x2] t)) := (Below.refl _ _).alloc (Nat.le_refl _) _
  refine ⟨h.on hs, Cell3.new W x0 x1 x2 t, fun j => ?_, h.rd.lt, fun e => ?_, fun e => ?_, fun e => ?_⟩
  · simp
  · have := (h.own.op.lt _ e).2; omega
  · have := (h.own.os.lt _ e).2; omega
  · have := (h.own.og.lt _ e).2; omega
theorem own_grants {W w1 : World} {B b : Nat} {p : Pl.Pol} {pv sv gv v' : Value} {x : Pl.Grn} (h : PolOwn W B b p pv sv gv) (hg : W.grownBy w1 gv.ownBlock) (ho : w1.ownsRow B 75 3 v' (p.grants.length + 1) (gcs p.grants ++ grnL x)) :
    PolOwn (w1.setCell ⟨b, 4, none⟩ v') B b { p with grants := p.grants ++ [x] } pv sv v' := by
  have c := h.box
  have hne : some b ≠ gv.ownBlock := by
    rcases own_ne h.og h.bB with e | e
    · rw [e]; simp
    · exact fun q => e q.symm
  have g2 := only_set w1 b 4 v'
  have hb : b < B := h.bB
  have ho' : w1.ownsRow B 75 3 v' (p.grants ++ [x]).length (gcs (p.grants ++ [x])) := by rw [List.length_append, gcs_snoc]; exact ho
  have op1 := h.op.kept hg (own_types h.op h.og (by decide))
  have os1 := h.os.kept hg (own_types h.os h.og (by decide))
  refine ⟨Cell5.set4 ⟨hg.cell c.c0 hne, hg.cell c.c1 hne, hg.cell c.c2 hne, hg.cell c.c3 hne, hg.cell c.c4 hne⟩ v', fun j => ?_, op1.kept g2 (own_ne op1 hb), os1.kept g2 (own_ne os1 hb), ho'.kept g2 (own_ne ho' hb), hb, Nat.le_trans h.BW (Nat.le_trans hg.size g2.size), h.fits⟩
  rw [World.frozen?_setCell]
  exact (World.frozen?_of_block (a := ⟨b, j, none⟩) (hg.block b c.lt hne)).trans (h.fz j)
theorem tell_r (p : Pl.Pol) (n1 n2 nb : List UInt8) : Pl.tell p Pl.wGrant [n1, n2, nb] = (Pl.fst (Pl.fst (Pl.none10 (Pl.find p.places n1)) (Pl.none10 (Pl.find p.places n2))) (Pl.num Pl.small nb).2,
    { p with grants := p.grants ++ [⟨Pl.find p.places n1, Pl.find p.places n2, ((Pl.num Pl.small nb).1 : Int)⟩] }) := by
  unfold Pl.tell; rw [if_neg (by decide), if_neg (by decide), if_neg (by decide), if_neg (by decide)]; rfl
theorem info75 : (Tryz.prog.info? 75).map (fun i => (i.zero, i.size, i.bytes)) = some (some (.agg #[.int .i64 0, .int .i64 0, .int .i64 0]), 3, 24) := by kernel_rfl
theorem own_at {W : World} {B b : Nat} {p : Pl.Pol} {pa : Option Addr} {pc : Nat} {sv gv : Value} (h : PolOwn W B b p (.slice pa p.places.length pc) sv gv) : Plcs W pa p.places := by
  obtain ⟨A, c, e, _, _, hp⟩ := own_plcs h.op h.fits
  cases e
  exact hp
set_option maxRecDepth 100000 in
set_option maxHeartbeats 8000000 in
theorem tell_grant (B b r : Nat) (p : Pl.Pol) (pv sv gv : Value) (n1 n2 nb : List UInt8) (W : World) (h : TSt W B b r p pv sv gv [n1, n2, nb] 0) (h3 : nb.length ≤ 100000) :
    Calls Tryz.prog 80 #[.pointer (some ⟨b, 0, none⟩), .string ⟨#[103, 114, 97, 110, 116]⟩, .pointer (some ⟨r, 0, none⟩)] W (TellPost B b (Pl.tell p Pl.wGrant [n1, n2, nb]) W) := by
  obtain ⟨pa, pc, rfl, hpc, hpb, -⟩ := own_plcs h.own.op h.own.fits
  obtain ⟨sa, sc, rfl, -, -, -⟩ := own_ints h.own.os
  obtain ⟨ga, gc, rfl, -, -, -⟩ := own_grns h.own.og
  have hpr : ∀ a, pa = some a → a.block ≠ r := fun a ha e => h.l1 (by rw [hpb a ha, e])
  have HL0 := Lib.hid (RSt.new h (.int .i64 0) (.int .i64 0) (.int .i64 0) 75)
  have HQ := Lib.hid (tell_r p n1 n2 nb)
  have hsz := h.sz
  unfold Pl.Pol.size at hsz
  have hbr := h.br
  have hrW := h.rd.lt
  have hbB := h.own.bB
  have HN1 := Lib.hid (fun W (h : Rdr W r [n1, n2, nb] 0) hp => rPlace_any p pa pc sa sc ga gc r n1 [n2, nb] 0 W h (by omega) hp hpr)
  have HN2 := Lib.hid (fun c W (h : Rdr W r [n2, nb] c) hp => rPlace_any p pa pc sa sc ga gc r n2 [nb] c W h (by omega) hp hpr)
  have HN3 := Lib.hid (fun c W (h : Rdr W r [nb] c) hE hr => rSmall_any r nb [] c W h h3 hE hr)
  rw [fst_0] at HN1
  obtain ⟨i0, hi0, hz0, hz1, hz2⟩ := info_parts info75
  have HB0 := Lib.hid (show Below b W (W.alloc (.cells #[.int .i64 0, .int .i64 0, .int .i64 0] 75)) from (Below.refl _ _).alloc (by omega) _)
  have HRG := Lib.hid (show 1 < r ∧ 5 < r from HL0.out.t.gl)
  simp only [polV] at HN1 HN2
  clear h hpb hpr
  generalize Pl.tell p Pl.wGrant [n1, n2, nb] = Q at *
  generalize Pl.find p.places n1 = F1 at *
  generalize Pl.find p.places n2 = F2 at *
  generalize Pl.num Pl.small nb = NB at *
  obtain ⟨nv, k2⟩ := NB
  simp only at *
  obtain ⟨d0, d1, d2, d3, d4⟩ := HL0.out.t.own.box
  go_enter Tryz.func80, Tryz.ntmps80
  go_wp2_with fail
  with_reducible refine (HN1.out _ HL0.out.t.rd (own_at HL0.out.t.own)).mono ?_
  rintro e W1 ⟨rfl, hR, hg⟩
  have HL1 := Lib.hid (HL0.out.step hg hR)
  have HB1 := Lib.hid (HB0.out.trans (g_below hg (by omega) (by simp; omega)))
  have k0 := HL1.out.c.c0
  have kf := HL1.out.f 0
  have ql := HL1.out.c.lt
  clear hR hg d0 d1 d2 d3 d4
  have HP1 := Lib.hid (HL1.out.put 0 (.int .i64 F1) (HL1.out.c.set0 _))
  have HC1 := Lib.hid (HB1.out.setCell (p := ⟨W.heap.size, 0, none⟩) (by simp only; omega) (.int .i64 F1))
  obtain ⟨d0, d1, d2, d3, d4⟩ := HP1.out.t.own.box
  go_wp2_with fail
  with_reducible refine (HN2.out _ _ HP1.out.t.rd (own_at HP1.out.t.own)).mono ?_
  rintro e W2 ⟨rfl, hR, hg⟩
  have HL2 := Lib.hid (HP1.out.step hg hR)
  have HB2 := Lib.hid (HC1.out.trans (g_below hg (by omega) (by have := HP1.out.t.rd.lt; omega)))
  clear k0 kf ql hR hg d0 d1 d2 d3 d4
  have k1 := HL2.out.c.c1
  have kf1 := HL2.out.f 1
  have ql := HL2.out.c.lt
  have HP2 := Lib.hid (HL2.out.put 1 (.int .i64 F2) (HL2.out.c.set1 _))
  have HC2 := Lib.hid (HB2.out.setCell (p := ⟨W.heap.size, 1, none⟩) (by simp only; omega) (.int .i64 F2))
  go_wp2_with fail
  with_reducible refine (HN3.out _ _ HP2.out.t.rd HP2.out.t.env HRG.out).mono ?_
  rintro e W3 ⟨rfl, hR, hg⟩
  have HL3 := Lib.hid (HP2.out.step hg hR)
  have HB3 := Lib.hid (HC2.out.trans (g_below hg (by omega) (by have := HP2.out.t.rd.lt; omega)))
  clear k1 kf1 ql hR hg
  have k3 := HL3.out.c.c2
  have kf3 := HL3.out.f 2
  have ql := HL3.out.c.lt
  have HP4 := Lib.hid (HL3.out.put 2 (.int .i64 (nv : Int)) (HL3.out.c.set2 _))
  have HC4 := Lib.hid (HB3.out.setCell (p := ⟨W.heap.size, 2, none⟩) (by simp only; omega) (.int .i64 (nv : Int)))
  go_wp2_with fail
  obtain ⟨W5, hW5⟩ : ∃ W5, W5 = W3.setCell ⟨W.heap.size, 2, none⟩ (.int .i64 (nv : Int)) := ⟨_, rfl⟩
  rw [← hW5] at HP4 HC4 ⊢
  clear hW5 k3 kf3 ql
  have hos := HP4.out.t.own.og
  have hBW := HP4.out.t.own.BW
  have mbl := HP4.out.t.own.box.lt
  have ql := HP4.out.c.lt
  obtain ⟨c0, c1, c2⟩ := HP4.out.c
  obtain ⟨m0, m1, m2, m3, m4⟩ := HP4.out.t.own.box
  go_region_law (first
    | (refine step_append_lies _ (by rfl) _ _ _ (by rfl) B 75 i0 _ 3 24 Tryz.underlying24 hi0 hz0 hz1 hz2 rfl (by omega) (.slice ga p.grants.length gc) p.grants.length (gcs p.grants) (by rfl) ((hos.alloc _).drew) ⟨W5.heap.size, 0, none⟩ 1 1 [.int .i64 F1, .int .i64 F2, .int .i64 (nv : Int)] (by rfl) (by rfl) (World.news_of_block (cs := #[.int .i64 F1, .int .i64 F2, .int .i64 (nv : Int)]) (t := 75) (fr := (0, 0)) (heap_alloc_new W5 _)) (by simp [Value.oneCell']) (by omega) (by unfold maxLen; omega) (by omega) (by simp; omega) (W5.heap.size + 1) (by simp) ?_; intro gg cap w1 hown1 hgrow hat hlt; obtain ⟨⟨k0, k1, k2, k3, k4⟩, kf, kr⟩ := app_facts HP4.out.t _ (undrew hgrow) (own_row HP4.out.t.own.og HP4.out.t.own.bB) HP4.out.t.l3; have kf4 := kf 4; have kl := World.block_lt_of_cell? w1 _ k2; have krl := World.block_lt_of_cell? w1 _ kr; simp only at kl krl; have HG := Lib.hid (undrew hgrow); have HO := Lib.hid hown1; clear hgrow hown1 kf))
  all_goals
    clear hos hBW mbl ql c0 c1 c2 m0 m1 m2 m3 m4 hat hlt k0 k1 k2 k3
    have hcd := (World.cell?_setCell_other w1 ⟨b, 4, none⟩ ⟨r, 1, none⟩ (.slice (some ⟨gg, 0, none⟩) (p.grants.length + 1) cap) (fun e => absurd (congrArg Addr.block e) (by simp only; omega))).trans kr
    go_wp2_with fail
    go_ret
    have hs : Below W5.heap.size W5 (W5.alloc (.cells #[.int .i64 F1, .int .i64 F2, .int .i64 (nv : Int)] 75)) := (Below.refl _ _).alloc (Nat.le_refl _) _
    have k := HP4.out.t.on hs
    refine ⟨by rw [HQ.out]; rfl, fun _ => ⟨_, _, _, by rw [HQ.out]; exact own_grants k.own HG.out HO.out⟩, ?_⟩
    have b2 : Below b W5 w1 := (hs.mono (by have := HP4.out.t.own.box.lt; omega)).trans (own_below HG.out HP4.out.t.own.bB (by have := k.own.box.lt; omega) (fun q hq => (k.own.og.lt q hq).1))
    exact (HC4.out.trans b2).setCell (Nat.le_refl _) _
end Go.Proofs.YtokljdaofjgihaaGreatDoor
