/-
  BOOKS HELD AGAINST EACH OTHER, the program's: walked.
-/
import Derived.Test.YtopobliajgocaaaGreatDoorZp29
import Derived.Test.YtopobliajgocaaaGreatDoorZp38

section
namespace Go.Proofs.YtopobliajgocaaaGreatDoor
open Go.ChangeShapes Go.WideShapes Go.ChangeAt Go.RowKit
theorem la_yes {α : Type} [DecidableEq α] {l m : List α} {z : α} (h : l.length = m.length) (g : ∀ j, j < l.length → l.getD j z = m.getD j z) : decide (l = m) = true := decide_eq_true (by
  refine List.ext_getElem h fun i h1 h2 => ?_
  have := g i h1
  rw [List.getD_eq_getElem?_getD, List.getElem?_eq_getElem h1, List.getD_eq_getElem?_getD, List.getElem?_eq_getElem h2] at this
  exact this)
theorem la_not {α : Type} [DecidableEq α] {l m : List α} {z : α} {k : Nat} (h : l.getD k z ≠ m.getD k z) : decide (l = m) = false := decide_eq_false fun e => h (by rw [e])
theorem la_len {α : Type} [DecidableEq α] {l m : List α} (h : l.length ≠ m.length) : decide (l = m) = false := decide_eq_false fun e => h (by rw [e])
attribute [local go_sem] guardSh
set_option maxRecDepth 100000 in
set_option maxHeartbeats 4000000 in
theorem eqSh_any (l m : List Sh) (A : Option Addr) (c : Nat) (B : Option Addr) (d : Nat) (w : World) (hl : l.length ≤ 100000) (hm : m.length ≤ 100000) (hA : Shs w A l) (hB : Shs w B m) :
    Calls Tryz.prog 38 #[.slice A l.length c, .slice B m.length d] w fun e w' => e = .returned (.bool (decide (l = m))) ∧ Below w.heap.size w w' := by
  have HA := Lib.hid hA
  have HB := Lib.hid hB
  have HNE := Lib.hid (show l.length ≠ m.length → decide (l = m) = false from la_len)
  have HNO := Lib.hid (fun k h => la_not (l := l) (m := m) (z := Bk.Sh0) (k := k) h)
  have HYES := Lib.hid (fun h g => la_yes (l := l) (m := m) (z := Bk.Sh0) h g)
  have HSE := Lib.hid (fun x y W => sh_eq x y W)
  clear hA hB
  generalize decide (l = m) = M at *
  obtain ⟨n, hn⟩ : ∃ n, n = l.length := ⟨_, rfl⟩
  obtain ⟨o, ho⟩ : ∃ o, o = m.length := ⟨_, rfl⟩
  rw [← hn, ← ho]
  have HN := Lib.hid hn
  have HO := Lib.hid ho
  have hnl : n ≤ 100000 := by omega
  have hol : o ≤ 100000 := by omega
  clear hn ho
  by_cases hlen : n = o
  · have HLEN := Lib.hid hlen
    have hlen2 : ((n : Int) != (o : Int)) = false := by rw [hlen]; simp
    go_enter Tryz.func38, Tryz.ntmps38
    go_wp2_with fail
    clear hlen hlen2
    go_loopg [13] n (fun g i wr => ∃ k : Nat, k + g = n ∧ i = .int .i64 (k : Int) ∧ (∀ j, j < k → l.getD j Bk.Sh0 = m.getD j Bk.Sh0) ∧ Below w.heap.size w wr)
    case atStart => exact ⟨0, by omega, rfl, fun j hj => absurd hj (by omega), Below.refl _ _⟩
    case round =>
      obtain ⟨k, hk, rfl, hno, hBl⟩ := hrel
      have HBL := Lib.hid hBl
      have HALL := Lib.hid hno
      clear hBl hno
      by_cases hlt : k < n
      · obtain ⟨b, off, rfl, hbl, hc⟩ := shs_get (HA.out.on HBL.out).row (show k < l.length by have := HN.out; omega)
        obtain ⟨b2, off2, rfl, hbl2, hd⟩ := shs_get (HB.out.on HBL.out).row (show k < m.length by have := HLEN.out; have := HO.out; omega)
        rw [sh_get] at hc hd
        have hlt2 : k < o := by have := HLEN.out; omega
        by_cases he : l.getD k Bk.Sh0 = m.getD k Bk.Sh0
        · have HNEXT : Hid (∀ j, j < k + 1 → l.getD j Bk.Sh0 = m.getD j Bk.Sh0) := fun j hj => by
            by_cases e : j = k
            · rw [e]; exact he
            · exact HALL.out j (by omega)
          have hq := HSE.out (l.getD k Bk.Sh0) (m.getD k Bk.Sh0)
          rw [decide_eq_true he] at hq
          clear he
          generalize l.getD k Bk.Sh0 = x at *
          generalize m.getD k Bk.Sh0 = y at *
          have c0 := hc 0 _ rfl
          have c1 := hc 1 _ rfl
          have c2 := hc 2 _ rfl
          have d0 := hd 0 _ rfl
          have d1 := hd 1 _ rfl
          have d2 := hd 2 _ rfl
          rw [Nat.add_zero] at c0 d0
          clear hc hd
          go_wp2_with fail
          go_quiet (fail)
          go_wp2_with fail
          go_roundg (gk - 1)
          case rel => exact ⟨k + 1, by omega, by go_num, HNEXT.out, drewN_below HBL.out _⟩
          case measure => omega
        · have HM := Lib.hid (HNO.out k he)
          have hq := HSE.out (l.getD k Bk.Sh0) (m.getD k Bk.Sh0)
          rw [decide_eq_false he] at hq
          clear he
          generalize l.getD k Bk.Sh0 = x at *
          generalize m.getD k Bk.Sh0 = y at *
          have c0 := hc 0 _ rfl
          have c1 := hc 1 _ rfl
          have c2 := hc 2 _ rfl
          have d0 := hd 0 _ rfl
          have d1 := hd 1 _ rfl
          have d2 := hd 2 _ rfl
          rw [Nat.add_zero] at c0 d0
          clear hc hd
          go_wp2_with fail
          go_quiet (fail)
          go_wp2_with fail
          go_ret
          exact ⟨ret_bool HM.out.symm, drewN_below HBL.out _⟩
      · have HM := Lib.hid (HYES.out (by have := HLEN.out; have := HN.out; have := HO.out; omega) (fun j hj => HALL.out j (by have := HN.out; omega)))
        have hlt2 : ¬ k < o := by have := HLEN.out; omega
        go_wp2_with fail
        go_ret
        exact ⟨ret_bool HM.out.symm, HBL.out⟩
  · have HM := Lib.hid (HNE.out (by have := HN.out; have := HO.out; omega))
    have hlen2 : ((n : Int) != (o : Int)) = true := by rw [bne_iff_ne]; omega
    clear hlen
    go_enter Tryz.func38, Tryz.ntmps38
    go_wp2_with fail
    go_ret
    exact ⟨ret_bool HM.out.symm, Below.refl _ _⟩
set_option maxHeartbeats 4000000 in
theorem rtSame1_any (x y : Bd) (A : Option Addr) (c : Nat) (B : Option Addr) (d : Nat) (w : World) (hl : x.want.length ≤ 100000) (hm : y.want.length ≤ 100000) (hA : Prs w A x.want) (hB : Prs w B y.want) :
    Calls Tryz.prog 36 #[bdV x A c, bdV y B d] w fun e w' => e = .returned (.bool (decide (x = y))) ∧ Below w.heap.size w w' := by
  have HB0 := Lib.hid (rtTwo w (.cells #[.string (ofL x.shop), .string (ofL x.to), .bool x.up, .string (ofL x.key), .slice A x.want.length c, .bool x.all] 37) (.cells #[.string (ofL y.shop), .string (ofL y.to), .bool y.up, .string (ofL y.key), .slice B y.want.length d, .bool y.all] 37))
  have HC := Lib.hid (bdSame_any x y A c B d _ hl hm (hA.on HB0.out) (hB.on HB0.out))
  rw [bdEq_dec] at HC
  clear hA hB hl hm
  generalize decide (x = y) = E at *
  simp only [bdV] at *
  go_enter Tryz.func36, Tryz.ntmps36
  go_wp2_with fail
  refine HC.out.mono ?_
  rintro e w2 ⟨rfl, b2⟩
  have HB2 := Lib.hid (bthen HB0.out b2 (Nat.le_refl _))
  clear b2
  go_wp2_with fail
  go_ret
  exact ⟨rfl, HB2.out⟩
set_option maxRecDepth 100000 in
set_option maxHeartbeats 8000000 in
theorem eqFBd_any (l m : List Bp) (A : Option Addr) (c : Nat) (B : Option Addr) (d : Nat) (w : World) (hl : l.length ≤ 100000) (hm : m.length ≤ 100000) (hA : Bds w A l) (hB : Bds w B m) :
    Calls Tryz.prog 39 #[.slice A l.length c, .slice B m.length d, .func (.func 36) #[] #[]] w fun e w' => e = .returned (.bool (decide (l.map Bp.x = m.map Bp.x))) ∧ Below w.heap.size w w' := by
  have HA := Lib.hid hA
  have HB := Lib.hid hB
  have hll : (l.map Bp.x).length = l.length := by simp
  have hmm : (m.map Bp.x).length = m.length := by simp
  have HNE := Lib.hid (show l.length ≠ m.length → decide (l.map Bp.x = m.map Bp.x) = false from fun h => la_len (by rw [hll, hmm]; exact h))
  have HNO := Lib.hid (fun k h => la_not (l := l.map Bp.x) (m := m.map Bp.x) (z := Bk.Bd0) (k := k) h)
  have HYES := Lib.hid (fun h g => la_yes (l := l.map Bp.x) (m := m.map Bp.x) (z := Bk.Bd0) h g)
  have HXL := Lib.hid (fun i (hi : i < l.length) => bx_get (m := l) (l := l.map Bp.x) rfl hi)
  have HXM := Lib.hid (fun i (hi : i < m.length) => bx_get (m := m) (l := m.map Bp.x) rfl hi)
  have HSE := Lib.hid (fun x y A c B d W h1 h2 h3 h4 => rtSame1_any x y A c B d W h1 h2 h3 h4)
  have HLL := Lib.hid hll
  have HMM := Lib.hid hmm
  clear hA hB hll hmm
  generalize decide (l.map Bp.x = m.map Bp.x) = M at *
  generalize l.map Bp.x = lx at *
  generalize m.map Bp.x = mx at *
  obtain ⟨n, hn⟩ : ∃ n, n = l.length := ⟨_, rfl⟩
  obtain ⟨o, ho⟩ : ∃ o, o = m.length := ⟨_, rfl⟩
  rw [← hn, ← ho]
  have HN := Lib.hid hn
  have HO := Lib.hid ho
  have hnl : n ≤ 100000 := by omega
  have hol : o ≤ 100000 := by omega
  clear hn ho
  by_cases hlen : n = o
  · have HLEN := Lib.hid hlen
    have hlen2 : ((n : Int) != (o : Int)) = false := by rw [hlen]; simp
    go_enter Tryz.func39, Tryz.ntmps39
    go_wp2_with fail
    clear hlen hlen2
    go_loopg [17] n (fun g i wr => ∃ k : Nat, k + g = n ∧ i = .int .i64 (k : Int) ∧ (∀ j, j < k → lx.getD j Bk.Bd0 = mx.getD j Bk.Bd0) ∧ Below w.heap.size w wr)
    case atStart => exact ⟨0, by omega, rfl, fun j hj => absurd hj (by omega), Below.refl _ _⟩
    case round =>
      obtain ⟨k, hk, rfl, hno, hBl⟩ := hrel
      have HBL := Lib.hid hBl
      have HALL := Lib.hid hno
      clear hBl hno
      by_cases hlt : k < n
      · have hkl : k < l.length := by have := HN.out; omega
        have hkm : k < m.length := by have := HLEN.out; have := HO.out; omega
        obtain ⟨b, off, rfl, hbl, hc⟩ := bps_get (HA.out.on HBL.out).row hkl
        obtain ⟨b2, off2, rfl, hbl2, hd⟩ := bps_get (HB.out.on HBL.out).row hkm
        have hok := (HA.out.on HBL.out).ok l[k] (List.getElem_mem hkl)
        have hom := (HB.out.on HBL.out).ok m[k] (List.getElem_mem hkm)
        have hx1 := HXL.out k hkl
        have hx2 := HXM.out k hkm
        have HLT2 := Lib.hid (show k < o by have := HLEN.out; omega)
        have HNEXT := Lib.hid (show l[k].x = m[k].x → ∀ j, j < k + 1 → lx.getD j Bk.Bd0 = mx.getD j Bk.Bd0 from fun he j hj => by
            by_cases e : j = k
            · rw [e, ← hx1, ← hx2]; exact he
            · exact HALL.out j (by omega))
        have HSTOP := Lib.hid (show l[k].x ≠ m[k].x → M = false from fun he => HNO.out k (by rw [← hx1, ← hx2]; exact he))
        clear hx1 hx2
        generalize l[k] = p at *
        generalize m[k] = q at *
        obtain ⟨x, Ax, cx⟩ := p
        obtain ⟨y, Ay, cy⟩ := q
        dsimp only at hok hom HNEXT HSTOP
        unfold bpL bdL at hc hd
        dsimp only at hc hd
        have c0 := hc 0 _ rfl
        have d0 := hd 0 _ rfl
        have c1 := hc 1 _ rfl
        have d1 := hd 1 _ rfl
        have c2 := hc 2 _ rfl
        have d2 := hd 2 _ rfl
        have c3 := hc 3 _ rfl
        have d3 := hd 3 _ rfl
        have c4 := hc 4 _ rfl
        have d4 := hd 4 _ rfl
        have c5 := hc 5 _ rfl
        have d5 := hd 5 _ rfl
        rw [Nat.add_zero] at c0 d0
        clear hc hd hkl hkm
        have hlt2 : k < o := HLT2.out
        have hb1 := rtTwo wr (.cells #[.string (ofL x.shop), .string (ofL x.to), .bool x.up, .string (ofL x.key), .slice Ax x.want.length cx, .bool x.all] 37) (.cells #[.string (ofL y.shop), .string (ofL y.to), .bool y.up, .string (ofL y.key), .slice Ay y.want.length cy, .bool y.all] 37)
        have HB1 := Lib.hid (bthen HBL.out hb1 (Nat.le_refl _))
        have hb0 := rtOne wr (.cells #[.string (ofL x.shop), .string (ofL x.to), .bool x.up, .string (ofL x.key), .slice Ax x.want.length cx, .bool x.all] 37)
        have d0 := rtCell hb0 d0
        have d1 := rtCell hb0 d1
        have d2 := rtCell hb0 d2
        have d3 := rtCell hb0 d3
        have d4 := rtCell hb0 d4
        have d5 := rtCell hb0 d5
        have HBZ := Lib.hid (show b2 < (wr.alloc (.cells #[.string (ofL x.shop), .string (ofL x.to), .bool x.up, .string (ofL x.key), .slice Ax x.want.length cx, .bool x.all] 37)).heap.size from Nat.lt_of_lt_of_le hbl2 hb0.size)
        have HX1 := Lib.hid (rtNext (rtAt0 wr #[.string (ofL x.shop), .string (ofL x.to), .bool x.up, .string (ofL x.key), .slice Ax x.want.length cx, .bool x.all] 37) (.cells #[.string (ofL y.shop), .string (ofL y.to), .bool y.up, .string (ofL y.key), .slice Ay y.want.length cy, .bool y.all] 37))
        have HSE1 := Lib.hid (HSE.out x y Ax cx Ay cy ((wr.alloc (.cells #[.string (ofL x.shop), .string (ofL x.to), .bool x.up, .string (ofL x.key), .slice Ax x.want.length cx, .bool x.all] 37)).alloc (.cells #[.string (ofL y.shop), .string (ofL y.to), .bool y.up, .string (ofL y.key), .slice Ay y.want.length cy, .bool y.all] 37)) hok.len hom.len (hok.row.on hb1) (hom.row.on hb1))
        clear hok hom hb1 hb0
        simp only [bdV] at HSE1
        have HY1 := Lib.hid (rtAt1 wr (.cells #[.string (ofL x.shop), .string (ofL x.to), .bool x.up, .string (ofL x.key), .slice Ax x.want.length cx, .bool x.all] 37) #[.string (ofL y.shop), .string (ofL y.to), .bool y.up, .string (ofL y.key), .slice Ay y.want.length cy, .bool y.all] 37)
        go_upto_region 7 with fail
        generalize (wr.alloc (.cells #[.string (ofL x.shop), .string (ofL x.to), .bool x.up, .string (ofL x.key), .slice Ax x.want.length cx, .bool x.all] 37)).alloc (.cells #[.string (ofL y.shop), .string (ofL y.to), .bool y.up, .string (ofL y.key), .slice Ay y.want.length cy, .bool y.all] 37) = wC at *
        have x0 := HX1.out.cs 0 _ rfl
        have x1 := HX1.out.cs 1 _ rfl
        have x2 := HX1.out.cs 2 _ rfl
        have x3 := HX1.out.cs 3 _ rfl
        have x4 := HX1.out.cs 4 _ rfl
        have x5 := HX1.out.cs 5 _ rfl
        have xl := HX1.out.lt
        have y0 := HY1.out.cs 0 _ rfl
        have y1 := HY1.out.cs 1 _ rfl
        have y2 := HY1.out.cs 2 _ rfl
        have y3 := HY1.out.cs 3 _ rfl
        have y4 := HY1.out.cs 4 _ rfl
        have y5 := HY1.out.cs 5 _ rfl
        have yl := HY1.out.lt
        by_cases he : x = y
        · rw [decide_eq_true he] at HSE1
          have HNX := Lib.hid (HNEXT.out he)
          clear he
          go_wp2_with fail
          refine HSE1.out.mono ?_
          rintro e w9 ⟨rfl, hb9⟩
          have HB9 := Lib.hid (bthen HB1.out hb9 (Nat.le_refl _))
          clear hb9
          go_wp2_with fail
          go_roundg (gk - 1)
          case rel => exact ⟨k + 1, by omega, by go_num, HNX.out, HB9.out⟩
          case measure => omega
        · rw [decide_eq_false he] at HSE1
          have HM := Lib.hid (HSTOP.out he)
          clear he
          go_wp2_with fail
          refine HSE1.out.mono ?_
          rintro e w9 ⟨rfl, hb9⟩
          have HB9 := Lib.hid (bthen HB1.out hb9 (Nat.le_refl _))
          clear hb9
          go_wp2_with fail
          go_ret
          exact ⟨ret_bool HM.out.symm, HB9.out⟩
      · have HM := Lib.hid (HYES.out (by rw [HLL.out, HMM.out]; have := HLEN.out; have := HN.out; have := HO.out; omega) (fun j hj => HALL.out j (by rw [HLL.out] at hj; have := HN.out; omega)))
        have hlt2 : ¬ k < o := by have := HLEN.out; omega
        go_wp2_with fail
        go_ret
        exact ⟨ret_bool HM.out.symm, HBL.out⟩
  · have HM := Lib.hid (HNE.out (by have := HN.out; have := HO.out; omega))
    have hlen2 : ((n : Int) != (o : Int)) = true := by rw [bne_iff_ne]; omega
    clear hlen
    go_enter Tryz.func39, Tryz.ntmps39
    go_wp2_with fail
    go_ret
    exact ⟨ret_bool HM.out.symm, Below.refl _ _⟩
theorem rtSame_any (b q : Bk) (A : Option Addr) (c : Nat) (B : Option Addr) (d : Nat) (ps : List Bp) (C : Option Addr) (e : Nat) (D : Option Addr) (f : Nat) (qs : List Bp) (w : World) (h1 : b.shops.length ≤ 100000) (h2 : b.binds.length ≤ 100000) (h3 : q.shops.length ≤ 100000) (h4 : q.binds.length ≤ 100000) (hI : BkAt w A c B d b ps) (hJ : BkAt w C e D f q qs) :
    Calls Tryz.prog 11 #[bkV A c B d b, bkV C e D f q] w fun en w' => en = .returned (.bool (decide (b = q))) ∧ Below w.heap.size w w' := by
  have hb0 := rtTwo w (.cells #[.slice A b.shops.length c, .slice B b.binds.length d] 28) (.cells #[.slice C q.shops.length e, .slice D q.binds.length f] 28)
  have HB0 := Lib.hid hb0
  have HX0 := Lib.hid (rtNext (rtAt0 w #[.slice A b.shops.length c, .slice B b.binds.length d] 28) (.cells #[.slice C q.shops.length e, .slice D q.binds.length f] 28))
  have HY0 := Lib.hid (rtAt1 w (.cells #[.slice A b.shops.length c, .slice B b.binds.length d] 28) #[.slice C q.shops.length e, .slice D q.binds.length f] 28)
  have HI := Lib.hid (hI.on hb0)
  have HJ := Lib.hid (hJ.on hb0)
  have HS := Lib.hid (fun W (hb : Below _ _ W) => eqSh_any b.shops q.shops A c C e W h1 h3 (HI.out.shs.on hb) (HJ.out.shs.on hb))
  have HD := Lib.hid (fun W (hb : Below _ _ W) => eqFBd_any ps qs B d D f W (by rw [hI.len]; exact h2) (by rw [hJ.len]; exact h4) (HI.out.bds.on hb) (HJ.out.bds.on hb))
  have hdec : decide (b = q) = (decide (b.shops = q.shops) && decide (b.binds = q.binds)) := by
    cases b; cases q
    simp
  rw [hI.xs, hJ.xs, hI.len, hJ.len] at HD
  rw [hdec]
  clear hI hJ hb0 hdec
  generalize decide (b.shops = q.shops) = E1 at *
  generalize decide (b.binds = q.binds) = E2 at *
  unfold bkV
  go_enter Tryz.func11, Tryz.ntmps11
  go_upto_region 2 with fail
  generalize (w.alloc (.cells #[.slice A b.shops.length c, .slice B b.binds.length d] 28)).alloc (.cells #[.slice C q.shops.length e, .slice D q.binds.length f] 28) = w1 at *
  have x0 := HX0.out.cs 0 _ rfl
  have x1 := HX0.out.cs 1 _ rfl
  have xl := HX0.out.lt
  have y0 := HY0.out.cs 0 _ rfl
  have y1 := HY0.out.cs 1 _ rfl
  have yl := HY0.out.lt
  cases E1 with
  | true =>
    go_wp2_with fail
    refine (HS.out _ (Below.refl _ _)).mono ?_
    rintro en w2 ⟨rfl, hb2⟩
    have HB2 := Lib.hid (bthen HB0.out hb2 (Nat.le_refl _))
    have HX2 := Lib.hid (HX0.out.on hb2)
    have HY2 := Lib.hid (HY0.out.on hb2)
    have HBB := Lib.hid hb2
    clear hb2 x0 x1 xl y0 y1 yl
    have x0 := HX2.out.cs 0 _ rfl
    have x1 := HX2.out.cs 1 _ rfl
    have xl := HX2.out.lt
    have y0 := HY2.out.cs 0 _ rfl
    have y1 := HY2.out.cs 1 _ rfl
    have yl := HY2.out.lt
    go_wp2_with fail
    refine (HD.out _ HBB.out).mono ?_
    rintro en w3 ⟨rfl, hb3⟩
    have HB3 := Lib.hid (bthen HB2.out hb3 (Nat.le_refl _))
    clear hb3
    go_wp2_with fail
    go_ret
    exact ⟨rfl, HB3.out⟩
  | false =>
    go_wp2_with fail
    refine (HS.out _ (Below.refl _ _)).mono ?_
    rintro en w2 ⟨rfl, hb2⟩
    have HB2 := Lib.hid (bthen HB0.out hb2 (Nat.le_refl _))
    clear hb2
    go_wp2_with fail
    go_ret
    exact ⟨rfl, HB2.out⟩
end Go.Proofs.YtopobliajgocaaaGreatDoor
end
