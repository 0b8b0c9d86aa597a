/-
  THE POLICY OF A TEXT, walked: the program's Parse, whole.
-/
import Derived.Test.YtokljdaofjgihaaGreatDoorParH
namespace Go.Proofs.YtokljdaofjgihaaGreatDoor
open Go.ChangeShapes Go.WideShapes Go.ChangeAt Go.RowKit

theorem own_pol {W : World} {B b : Nat} {p : Pl.Pol} {pv sv gv : Value} (h : PolOwn W B b p pv sv gv) (hs : p.size ≤ 99999) :
    ∃ pa pc sa sc ga gc, pv = .slice pa p.places.length pc ∧ sv = .slice sa p.slots.length sc ∧ gv = .slice ga p.grants.length gc ∧ PolIs W p pa pc sa sc ga gc := by
  obtain ⟨pa, pc, h1, h2, -, h3⟩ := own_plcs h.op h.fits
  obtain ⟨sa, sc, k1, k2, -, k3⟩ := own_ints h.os
  obtain ⟨ga, gc, g1, g2, -, g3⟩ := own_grns h.og
  unfold Pl.Pol.size at hs
  exact ⟨pa, pc, sa, sc, ga, gc, h1, k1, g1, h3, k3, g3, by omega, by omega, by omega, h2, k2, g2⟩
theorem polIs_zero (W : World) : PolIs W Pl.Pol.zero none 0 none 0 none 0 :=
  ⟨⟨fun i hi => absurd hi (by simp [Pl.Pol.zero])⟩, ⟨fun i hi => absurd hi (by simp [Pl.Pol.zero])⟩, ⟨fun i hi => absurd hi (by simp [Pl.Pol.zero])⟩, by simp [Pl.Pol.zero], by simp [Pl.Pol.zero], by simp [Pl.Pol.zero], by simp [Pl.Pol.zero], by simp [Pl.Pol.zero], by simp [Pl.Pol.zero]⟩
/-- what is read of a text -/
def ParPost (q : Pl.Pol × Nat × Nat) (W : World) (e : Ending) (W' : World) : Prop :=
  ∃ pa pc sa sc ga gc, e = .returned (.tuple #[polV q.1 pa pc sa sc ga gc, .int .i64 (q.2.1 : Int), .int .i64 (q.2.2 : Int)]) ∧ PolIs W' q.1 pa pc sa sc ga gc ∧ Below W.heap.size W W'
/-- a policy's box that isn't written on -/
structure Box5 (W : World) (b : Nat) (x0 x1 x2 x3 x4 : Value) : Prop where
  c : Cell5 W b x0 x1 x2 x3 x4
  f : ∀ j, W.frozen? ⟨b, j, none⟩ = false
theorem Box5.new (w : World) (x0 x1 x2 x3 x4 : Value) (t : TypeId) : Box5 (w.alloc (.cells #[x0, x1, x2, x3, x4] t)) w.heap.size x0 x1 x2 x3 x4 := ⟨Cell5.new w x0 x1 x2 x3 x4 t, fun j => by simp⟩
theorem Box5.below {w w' : World} {b B : Nat} {x0 x1 x2 x3 x4 : Value} (h : Box5 w b x0 x1 x2 x3 x4) (hb : Below B w w') (hB : b < B) : Box5 w' b x0 x1 x2 x3 x4 :=
  ⟨h.c.below hb hB, fun j => (hb.frozen (p := ⟨b, j, none⟩) hB).trans (h.f j)⟩
def zs : Value := .slice none 0 0
/-- what is gone through of a text: what is left of it, the line's number -/
def ParSt (l : List UInt8) (R : Pl.Pol × Nat × Nat) (w : World) (g : Nat) (s a : Value) (wr : World) : Prop :=
  ∃ (m : List UInt8) (k : Nat) (p : Pl.Pol) (pv sv gv : Value), m.length = g ∧ s = .string (ofL m) ∧ a = .int .i64 (k : Int) ∧ k ≤ l.length + 1 ∧ k + m.length ≤ l.length + 1 ∧ p.size + m.length ≤ l.length ∧ Pl.run (Pl.lines m) k p = R ∧
    PolOwn wr (w.heap.size + 2) (w.heap.size + 1) p pv sv gv ∧ Box5 wr w.heap.size (.int .i64 0) (.int .i64 0) zs zs zs ∧ Env wr ∧ Below w.heap.size w wr
theorem cut_of (m : List UInt8) (hm : m ≠ []) : ∃ x r : List UInt8, Lib.cut m [10] = (x, r, (Lib.cut m [10]).2.2) ∧ x.length ≤ m.length ∧ r.length < m.length ∧ ∃ t, Pl.lines m = x :: t ∧ ∀ k p, Pl.run t k p = Pl.run (Pl.lines r) k p := by
  have h0 : 0 < m.length := List.length_pos_iff.2 hm
  by_cases hi : Lib.index m [10] = -1
  · refine ⟨m, [], ?_, Nat.le_refl _, by simpa using h0, [], Pl.cut_miss hi, fun k p => ?_⟩
    · unfold Lib.cut; rw [if_neg (by rw [hi]; simp)]
    · rw [Pl.run_nil]; rfl
  · have hge := Lib.index_ge m [10]
    obtain ⟨i, hi'⟩ : ∃ i : Nat, Lib.index m [10] = i := ⟨(Lib.index m [10]).toNat, by omega⟩
    obtain ⟨h1, h2⟩ := Pl.cut_hit hi'
    refine ⟨m.take i, m.drop (i + 1), ?_, by rw [List.length_take]; omega, by rw [List.length_drop]; omega, Pl.lines (m.drop (i + 1)), h2, fun k p => rfl⟩
    unfold Lib.cut
    rw [if_pos (by rw [hi']; omega), hi']
    rfl
theorem cut_any (m : List UInt8) (w : World) (hm : m.length ≤ 100000) (hL : Len w) :
    Calls Tryz.prog 50 #[.string (ofL m), .string ⟨#[10]⟩] w fun e w' => e = .returned (.tuple #[.string (ofL (Lib.cut m [10]).1), .string (ofL (Lib.cut m [10]).2.1), .bool (Lib.cut m [10]).2.2]) ∧ Below w.heap.size w w' := by
  obtain ⟨x, hx⟩ := hL
  refine (Tryz.strings_Cut (ofL m) ⟨#[10]⟩ x w (by rw [ofL_size]; omega) hx).mono ?_
  rintro e w' ⟨rfl, n, rfl⟩
  exact ⟨rfl, ⟨rfl, rfl, rfl, Nat.le_refl _, fun _ _ => rfl⟩⟩
theorem Env.low {W W' : World} {B : Nat} (h : Env W) (hb : Below B W W') (h1 : 1 < B) (h2 : 5 < B) : Env W' := by
  obtain ⟨m, hm⟩ := h.len
  obtain ⟨ev, hc, hev⟩ := h.rng
  exact ⟨⟨m, (hb.cell (p := ⟨1, 0, none⟩) h1).trans hm⟩, ev, (hb.cell (p := ⟨5, 0, none⟩) h2).trans hc, hev⟩
theorem own_set5 {W : World} {B b q : Nat} {p : Pl.Pol} {pv sv gv : Value} (h : PolOwn W B b p pv sv gv) (hq : q < b) (v0 v1 v2 v3 v4 : Value) :
    PolOwn (((((W.setCell ⟨q, 0, none⟩ v0).setCell ⟨q, 1, none⟩ v1).setCell ⟨q, 2, none⟩ v2).setCell ⟨q, 3, none⟩ v3).setCell ⟨q, 4, none⟩ v4) B b p pv sv gv := by
  have hg := only_setCell (only_setCell (only_setCell (only_setCell (only_set W q 0 v0) (p := ⟨q, 1, none⟩) rfl v1) (p := ⟨q, 2, none⟩) rfl v2) (p := ⟨q, 3, none⟩) rfl v3) (p := ⟨q, 4, none⟩) rfl v4
  have := h.bB
  exact h.kept hg (by omega) (own_row h.op (by omega)) (own_row h.os (by omega)) (own_row h.og (by omega))
theorem below_set5 {w W : World} {q : Nat} (h : Below q w W) (v0 v1 v2 v3 v4 : Value) :
    Below q w (((((W.setCell ⟨q, 0, none⟩ v0).setCell ⟨q, 1, none⟩ v1).setCell ⟨q, 2, none⟩ v2).setCell ⟨q, 3, none⟩ v3).setCell ⟨q, 4, none⟩ v4) :=
  ((((h.setCell (Nat.le_refl _) _).setCell (Nat.le_refl _) _).setCell (Nat.le_refl _) _).setCell (Nat.le_refl _) _).setCell (Nat.le_refl _) _
theorem fin_bad {p : Pl.Pol} (h : Pl.check p ≠ 0) : Pl.fin p = (Pl.Pol.zero, 0, Pl.check p) := by unfold Pl.fin; rw [if_pos h]
theorem fin_good {p : Pl.Pol} (h : Pl.check p = 0) : Pl.fin p = (p, 0, 0) := by unfold Pl.fin; rw [if_neg (by rw [h]; simp)]
set_option maxRecDepth 100000 in
set_option maxHeartbeats 8000000 in
theorem pparse_any (l : List UInt8) (w : World) (hl : l.length ≤ 90000) (hE : Env w) :
    Calls Tryz.prog 17 #[.string (ofL l)] w (ParPost (Pl.parse l) w) := by
  have h1 := hE.len.pos
  obtain ⟨ev, hev, -⟩ := hE.rng
  have h2 := World.block_lt_of_cell? w _ hev
  simp only at h2
  clear hev
  have hs1 : Below w.heap.size w (w.alloc (.cells #[.int .i64 0, .int .i64 0, zs, zs, zs] 26)) := (Below.refl _ _).alloc (Nat.le_refl _) _
  have hs2 : Below (w.alloc (.cells #[.int .i64 0, .int .i64 0, zs, zs, zs] 26)).heap.size (w.alloc (.cells #[.int .i64 0, .int .i64 0, zs, zs, zs] 26)) ((w.alloc (.cells #[.int .i64 0, .int .i64 0, zs, zs, zs] 26)).alloc (.cells #[.int .i64 0, .int .i64 0, zs, zs, zs] 26)) := (Below.refl _ _).alloc (Nat.le_refl _) _
  have HST := Lib.hid (show ParSt l (Pl.parse l) w l.length (.string (ofL l)) (.int .i64 1) ((w.alloc (.cells #[.int .i64 0, .int .i64 0, zs, zs, zs] 26)).alloc (.cells #[.int .i64 0, .int .i64 0, zs, zs, zs] 26)) from by
    refine ⟨l, 1, Pl.Pol.zero, zs, zs, zs, rfl, rfl, rfl, by omega, by omega, by simp [Pl.Pol.size, Pl.Pol.zero], rfl, ?_, (Box5.new w _ _ _ _ _ 26).below hs2 (by simp), (hE.on hs1).on hs2, bthen hs1 hs2 (Nat.le_refl _)⟩
    have hb := Box5.new (w.alloc (.cells #[.int .i64 0, .int .i64 0, zs, zs, zs] 26)) (.int .i64 0) (.int .i64 0) zs zs zs 26
    have e : (w.alloc (.cells #[.int .i64 0, .int .i64 0, zs, zs, zs] 26)).heap.size = w.heap.size + 1 := by simp
    rw [e] at hb
    exact ⟨hb.c, hb.f, World.ownsRow_nil _ _ _ _, World.ownsRow_nil _ _ _ _, World.ownsRow_nil _ _ _ _, by omega, by simp, fun i hi => absurd hi (by simp [Pl.Pol.zero])⟩)
  clear hs1 hs2 hE
  generalize Pl.parse l = R at *
  obtain ⟨n, hn⟩ : ∃ n, n = l.length := ⟨_, rfl⟩
  rw [← hn] at HST
  have HN := Lib.hid hn
  clear hn
  unfold zs at HST
  go_enter Tryz.func17, Tryz.ntmps17
  go_wp2_with fail
  go_loopg [0, 6] n (fun g s a wr => ParSt l R w g s a wr)
  case atStart => exact HST.out
  case round =>
    obtain ⟨m, k, p, pv, sv, gv, hg, rfl, rfl, hk, hkm, hsz, hrun, hO, hbx, hE, hB⟩ := hrel
    have HO := Lib.hid hO
    have HBX := Lib.hid hbx
    have HE := Lib.hid hE
    have HB := Lib.hid hB
    have HR := Lib.hid hrun
    clear hO hbx hE hB hrun
    by_cases hm : m = []
    · subst hm
      rw [Pl.run_nil] at HR
      have hsz0 : p.size ≤ 99999 := by simp only [List.length_nil] at hsz; omega
      obtain ⟨pa, pc, sa, sc, ga, gc, rfl, rfl, rfl, hpi⟩ := own_pol HO.out hsz0
      have HCH := Lib.hid (polCheck_any p pa pc sa sc ga gc wr hpi)
      have HF1 := Lib.hid (fun h => fin_bad (p := p) h)
      have HF2 := Lib.hid (fun h => fin_good (p := p) h)
      clear hpi
      simp only [polV] at HCH
      generalize Pl.check p = C at *
      obtain ⟨c0, c1, c2, c3, c4⟩ := HO.out.box
      rw [show ofL [] = ⟨#[]⟩ from rfl]
      by_cases hC : C = 0
      · have hz := isz hC
        have HF := Lib.hid ((HF2.out hC).symm.trans HR.out)
        clear hC
        go_wp2_with fail
        (with_reducible refine HCH.out.mono ?_)
        rintro e W1 ⟨rfl, hB1⟩
        have HO1 := Lib.hid (HO.out.on hB1)
        have HBX1 := Lib.hid (HBX.out.below hB1 HBX.out.c.lt)
        have HB1 := Lib.hid (bthen HB.out hB1 (Nat.le_refl _))
        clear hB1 c0 c1 c2 c3 c4
        obtain ⟨c0, c1, c2, c3, c4⟩ := HO1.out.box
        obtain ⟨⟨b0, b1, b2, b3, b4⟩, bf⟩ := HBX1.out
        have bf0 := bf 0
        have bf1 := bf 1
        have bf2 := bf 2
        have bf3 := bf 3
        have bf4 := bf 4
        have hlt0 := HBX1.out.c.lt
        clear bf
        go_wp2_with fail
        refine bodyPost_ret (v := .tuple #[.agg #[.int .i64 p.work, .int .i64 p.give, .slice pa p.places.length pc, .slice sa p.slots.length sc, .slice ga p.grants.length gc], .int .i64 0, .int .i64 0]) (by simp [results, Tryz.results17, go_sem, b0, b1, b2, b3, b4]) rfl ?_
        rw [← HF.out]
        have o5 := own_set5 HO1.out (q := w.heap.size) (by omega) (.int .i64 p.work) (.int .i64 p.give) (.slice pa p.places.length pc) (.slice sa p.slots.length sc) (.slice ga p.grants.length gc)
        obtain ⟨pa', pc', sa', sc', ga', gc', e1, e2, e3, hpi⟩ := own_pol o5 hsz0
        cases e1; cases e2; cases e3
        exact ⟨pa, pc, sa, sc, ga, gc, rfl, hpi, below_set5 HB1.out _ _ _ _ _⟩
      · have hnz := nz hC
        have HF := Lib.hid ((HF1.out hC).symm.trans HR.out)
        clear hC
        go_wp2_with fail
        (with_reducible refine HCH.out.mono ?_)
        rintro e W1 ⟨rfl, hB1⟩
        have HBX1 := Lib.hid (HBX.out.below hB1 HBX.out.c.lt)
        have HB1 := Lib.hid (bthen HB.out hB1 (Nat.le_refl _))
        clear hB1 c0 c1 c2 c3 c4
        obtain ⟨⟨b0, b1, b2, b3, b4⟩, bf⟩ := HBX1.out
        have bf0 := bf 0
        have bf1 := bf 1
        have bf2 := bf 2
        have bf3 := bf 3
        have bf4 := bf 4
        have hlt0 := HBX1.out.c.lt
        clear bf
        go_wp2_with fail
        refine bodyPost_ret (v := .tuple #[.agg #[.int .i64 0, .int .i64 0, .slice none 0 0, .slice none 0 0, .slice none 0 0], .int .i64 0, .int .i64 (C : Int)]) (by simp [results, Tryz.results17, go_sem, b0, b1, b2, b3, b4]) rfl ?_
        rw [← HF.out]
        exact ⟨none, 0, none, 0, none, 0, rfl, polIs_zero _, below_set5 HB1.out _ _ _ _ _⟩
    · have hne := str_ne (l := m) (by have := List.length_pos_iff.2 hm; omega)
      obtain ⟨x, r, hcut, hxl, hrl, t, hlines, hrest⟩ := cut_of m hm
      have HC := Lib.hid (cut_any m wr (by omega) HE.out.len)
      rw [hcut] at HC
      simp only at HC
      generalize (Lib.cut m [10]).2.2 = found at *
      have HT := Lib.hid (fun W (h : PolOwn W (w.heap.size + 2) (w.heap.size + 1) p pv sv gv) hE => take_any (w.heap.size + 2) (w.heap.size + 1) p pv sv gv x W h hE (by omega) (by omega) (by omega) (by omega))
      rw [hlines] at HR
      have hts := Pl.take_size p x
      have HBAD := Lib.hid (fun h => Pl.run_bad (x := x) (r := t) (k := k) (p := p) h)
      have HOK := Lib.hid (fun h => (Pl.run_ok (x := x) (r := t) (k := k) (p := p) h).trans (hrest _ _))
      clear hcut hlines hrest
      generalize Pl.take p x = Q at *
      obtain ⟨c, p'⟩ := Q
      simp only at hts
      go_wp2_with fail
      (with_reducible refine HC.out.mono ?_)
      rintro e W1 ⟨rfl, hB1⟩
      have HO1 := Lib.hid (HO.out.on hB1)
      have HE1 := Lib.hid (HE.out.on hB1)
      have HBX1 := Lib.hid (HBX.out.below hB1 HBX.out.c.lt)
      have HB1 := Lib.hid (bthen HB.out hB1 (Nat.le_refl _))
      clear hB1
      go_wp2_with fail
      (with_reducible refine (HT.out _ HO1.out HE1.out).mono ?_)
      rintro e W2 ⟨rfl, hT1, hT2⟩
      simp only at hT1
      have HT1 := Lib.hid hT1
      have HBX2 := Lib.hid (HBX1.out.below hT2 (by omega))
      have HB2 := Lib.hid (HB1.out.trans (hT2.mono (by omega)))
      clear hT1
      by_cases hc : c = 0
      · have hz := isz hc
        have hrun2 := (HOK.out hc).symm.trans HR.out
        obtain ⟨pv', sv', gv', hO2⟩ := HT1.out hc
        have HO2 := Lib.hid hO2
        have HE2 := Lib.hid (HE1.out.low hT2 (by omega) (by omega))
        have HR2 := Lib.hid hrun2
        clear hc hrun2 hO2 hT2
        go_wp2_with fail
        go_roundg r.length
        case rel => exact ⟨r, k + 1, p', pv', sv', gv', rfl, rfl, by go_num, by omega, by omega, by omega, HR2.out, HO2.out, HBX2.out, HE2.out, HB2.out⟩
        case measure => omega
      · have hnz := nz hc
        have HF := Lib.hid ((HBAD.out hc).symm.trans HR.out)
        clear hc hT2
        obtain ⟨⟨b0, b1, b2, b3, b4⟩, bf⟩ := HBX2.out
        have bf0 := bf 0
        have bf1 := bf 1
        have bf2 := bf 2
        have bf3 := bf 3
        have bf4 := bf 4
        have hlt0 := HBX2.out.c.lt
        clear bf
        go_wp2_with fail
        refine bodyPost_ret (v := .tuple #[.agg #[.int .i64 0, .int .i64 0, .slice none 0 0, .slice none 0 0, .slice none 0 0], .int .i64 (k : Int), .int .i64 (c : Int)]) (by simp [results, Tryz.results17, go_sem, b0, b1, b2, b3, b4]) rfl ?_
        rw [← HF.out]
        exact ⟨none, 0, none, 0, none, 0, rfl, polIs_zero _, below_set5 HB2.out _ _ _ _ _⟩
end Go.Proofs.YtokljdaofjgihaaGreatDoor
