/-
  ROWS OF NAMES held against each other; the chapter's example: walked. THE CHAPTER'S EXAMPLE: walked. THE CHAPTER'S EXAMPLE (deeds): walked. THE LAW DeedShort, walked.
-/
import Derived.Test.YtaikigponkjkgaaGreatDoorDs18
import Derived.Test.YtaikigponkjkgaaGreatDoorDs22
import Derived.Test.YtaikigponkjkgaaGreatDoorDs38
import Derived.Test.YtaikigponkjkgaaGreatDoorDs45
import Derived.Test.YtaikigponkjkgaaGreatDoorDs47
import Derived.Test.YtaikigponkjkgaaGreatDoorDs48

section
namespace Go.Proofs.YtaikigponkjkgaaGreatDoor
open Go.ChangeShapes Go.WideShapes Go.ChangeAt Go.RowKit
theorem st_getD {l : List (List UInt8)} {k : Nat} (h : k < l.length) : l[k] = l.getD k [] := by rw [List.getD_eq_getElem?_getD, List.getElem?_eq_getElem h]; rfl
theorem st_not {l m : List (List UInt8)} {k : Nat} (h : (l.getD k [] == m.getD k []) = false) : decide (l = m) = false := decide_eq_false fun e => by
  subst e
  simp at h
theorem st_yes {l m : List (List UInt8)} (h : l.length = m.length) (g : ∀ j, j < l.length → (l.getD j [] == m.getD j []) = true) : decide (l = m) = true := decide_eq_true (by
  refine List.ext_getElem h fun i h1 h2 => ?_
  have := g i h1
  rw [← st_getD h1, ← st_getD h2] at this
  simpa using this)
set_option maxHeartbeats 2000000 in
theorem eqS_any (l m : List (List UInt8)) (A : Option Addr) (c : Nat) (B : Option Addr) (d : Nat) (w : World) (hl : l.length ≤ 100000) (hm : m.length ≤ 100000) (hA : Rws w A (sts l)) (hB : Rws w B (sts m)) :
    Calls Tryz.prog 89 #[.slice A l.length c, .slice B m.length d] w fun e w' => e = .returned (.bool (decide (l = m))) ∧ Below w.heap.size w w' := by
  have HA := Lib.hid hA
  have HB := Lib.hid hB
  have HNE := Lib.hid (show l.length ≠ m.length → decide (l = m) = false from fun h => decide_eq_false fun e => h (by rw [e]))
  have HNO := Lib.hid (fun k h => st_not (l := l) (m := m) (k := k) h)
  have HYES := Lib.hid (fun h g => st_yes (l := l) (m := m) h g)
  clear hA hB
  generalize decide (l = m) = M at *
  obtain ⟨n, hn⟩ : ∃ n, n = l.length := ⟨_, rfl⟩
  obtain ⟨o, ho⟩ : ∃ o, o = m.length := ⟨_, rfl⟩
  rw [← hn, ← ho]
  have HN := Lib.hid hn
  have HO := Lib.hid ho
  have hnl : n ≤ 100000 := by omega
  have hol : o ≤ 100000 := by omega
  clear hn ho
  by_cases hlen : n = o
  · have HLEN := Lib.hid hlen
    have hlen2 : ((n : Int) != (o : Int)) = false := by rw [hlen]; simp
    go_enter Tryz.func89, Tryz.ntmps89
    go_wp2_with fail
    clear hlen hlen2
    go_loopg [13] n (fun g i wr => ∃ k : Nat, k + g = n ∧ i = .int .i64 (k : Int) ∧ (∀ j, j < k → (l.getD j [] == m.getD j []) = true) ∧ Below w.heap.size w wr)
    case atStart => exact ⟨0, by omega, rfl, fun j hj => absurd hj (by omega), Below.refl _ _⟩
    case round =>
      obtain ⟨k, hk, rfl, hno, hBl⟩ := hrel
      have HBL := Lib.hid hBl
      have HALL := Lib.hid hno
      clear hBl hno
      by_cases hlt : k < n
      · obtain ⟨b, off, rfl, hbl, c0⟩ := sts_get (Rws.on HA.out HBL.out) (show k < l.length by have := HN.out; omega)
        obtain ⟨b2, off2, rfl, hbl2, d0⟩ := sts_get (Rws.on HB.out HBL.out) (show k < m.length by have := HLEN.out; have := HO.out; omega)
        rw [st_getD] at c0 d0
        have hlt2 : k < o := by have := HLEN.out; omega
        have hq := str_same (l.getD k []) (m.getD k [])
        cases he : l.getD k [] == m.getD k [] with
        | true =>
          have HNEXT : Hid (∀ j, j < k + 1 → (l.getD j [] == m.getD j []) = true) := fun j hj => by
            by_cases e : j = k
            · rw [e]; exact he
            · exact HALL.out j (by omega)
          rw [he] at hq
          have hq2 : ((ofL (l.getD k [])).toList != (ofL (m.getD k [])).toList) = false := by rw [bne, hq]; rfl
          clear he
          generalize l.getD k [] = x at *
          generalize m.getD k [] = y at *
          go_wp2_with fail
          go_quiet (fail)
          go_wp2_with fail
          go_roundg (gk - 1)
          case rel => exact ⟨k + 1, by omega, by go_num, HNEXT.out, drewN_below HBL.out _⟩
          case measure => omega
        | false =>
          have HM := Lib.hid (HNO.out k he)
          rw [he] at hq
          have hq2 : ((ofL (l.getD k [])).toList != (ofL (m.getD k [])).toList) = true := by rw [bne, hq]; rfl
          clear he
          generalize l.getD k [] = x at *
          generalize m.getD k [] = y at *
          go_wp2_with fail
          go_quiet (fail)
          go_wp2_with fail
          go_ret
          exact ⟨ret_bool HM.out.symm, drewN_below HBL.out _⟩
      · have HM := Lib.hid (HYES.out (by have := HLEN.out; have := HN.out; have := HO.out; omega) (fun j hj => HALL.out j (by have := HN.out; omega)))
        have hlt2 : ¬ k < o := by have := HLEN.out; omega
        go_wp2_with fail
        go_ret
        exact ⟨ret_bool HM.out.symm, HBL.out⟩
  · have HM := Lib.hid (HNE.out (by have := HN.out; have := HO.out; omega))
    have hlen2 : ((n : Int) != (o : Int)) = true := by rw [bne_iff_ne]; omega
    clear hlen
    go_enter Tryz.func89, Tryz.ntmps89
    go_wp2_with fail
    go_ret
    exact ⟨ret_bool HM.out.symm, Below.refl _ _⟩
theorem rt_law10_any (w : World) (hL : Len w) : Calls Tryz.prog 88 #[] w fun e w' => e = .returned (.bool true) ∧ Below w.heap.size w w' := by
  have HE := Lib.hid (awake10_any w hL)
  clear hL
  go_enter Tryz.func88, Tryz.ntmps88
  go_wp2_with fail
  refine HE.out.mono ?_
  rintro e w1 ⟨rfl, b1⟩
  have HB1 := Lib.hid b1
  clear b1
  go_wp2_with fail
  go_ret
  exact ⟨rfl, HB1.out⟩
namespace Bk
def exS : Sh := ⟨[97], 1, []⟩
def exX : Bd := ⟨[97], [113], false, [], [], false⟩
def exY : Bd := ⟨[97], [113], false, [120], [], false⟩
def ex1 : Bk := ⟨[exS], []⟩
def ex2 : Bk := ⟨[exS], [exX]⟩
def ex3 : Bk := ⟨[exS], [exX, exY]⟩
theorem ex_1 : empty.make exS = (ex1, 0) := by decide
theorem ex_2 : ex1.bind exX = (ex2, 0) := by decide
theorem ex_3 : ex2.bind exY = (ex3, 0) := by decide
theorem ex_ok1 : Ok ex1 := by have := Ok.empty.make exS; rw [ex_1] at this; exact this
theorem ex_ok2 : Ok ex2 := by have := ex_ok1.bind exX; rw [ex_2] at this; exact this
end Bk
theorem ex_bdOk (w : World) (x : Bd) (hx : x = Bk.exX ∨ x = Bk.exY) : BdOk w x none 0 := by
  rcases hx with rfl | rfl
  · exact ⟨by decide, by decide, by decide, by decide, by decide, lite_nil, Prs.nil _ _⟩
  · exact ⟨by decide, by decide, by decide, by decide, by decide, lite_nil, Prs.nil _ _⟩
theorem exl_q : Bk.qs Bk.ex3 [97] [] [] = [[113]] := by decide
theorem exl_p : Bk.pls Bk.ex3 [97] [] [] = [] := by decide
theorem exl_c : Bk.lcode Bk.ex3 [97] = 0 := by decide
theorem ex_make (w : World) : Calls Tryz.prog 84 #[.agg #[.slice none 0 0, .slice none 0 0], .agg #[.string ⟨#[97]⟩, .int .u8 1, .string ⟨#[]⟩]] w fun e w' => ∃ A c B d ps, e = .returned (.tuple #[.agg #[.slice A 1 c, .slice B 0 d], .int .i64 0]) ∧ BkAt w' A c B d Bk.ex1 ps ∧ BkU (fun g => w.heap.size ≤ g) w' A B ps ∧ Below w.heap.size w w' := by
  have h := rtMake_any Bk.empty none 0 none 0 [] Bk.exS w (fun _ => False) Bk.Ok.empty (by decide) (by decide) (BkAt.nil w) (BkU.nil _ w)
  rw [Bk.ex_1] at h
  refine h.mono ?_
  rintro e w' ⟨A, c, B, d, ps, rfl, h1, h2, h3⟩
  exact ⟨A, c, B, d, ps, rfl, h1, h2.mono (fun g h => h.elim False.elim id), h3⟩
theorem ex_bind1 (w : World) (A : Option Addr) (c : Nat) (B : Option Addr) (d : Nat) (ps : List Bp) (U : Nat → Prop) (h1 : BkAt w A c B d Bk.ex1 ps) (h2 : BkU U w A B ps) (hL : Len w) : Calls Tryz.prog 85 #[.agg #[.slice A 1 c, .slice B 0 d], .agg #[.string ⟨#[97]⟩, .string ⟨#[113]⟩, .bool false, .string ⟨#[]⟩, .slice none 0 0, .bool false]] w fun e w' => ∃ A c B d ps, e = .returned (.tuple #[.agg #[.slice A 1 c, .slice B 1 d], .int .i64 0]) ∧ BkAt w' A c B d Bk.ex2 ps ∧ BkU (fun g => U g ∨ w.heap.size ≤ g) w' A B ps ∧ Below w.heap.size w w' := by
  have h := rtBind_any Bk.ex1 A c B d ps Bk.exX none 0 w U Bk.ex_ok1 h1 h2 (ex_bdOk w _ (.inl rfl)) hL
  rw [Bk.ex_2] at h
  exact h
theorem ex_bind2 (w : World) (A : Option Addr) (c : Nat) (B : Option Addr) (d : Nat) (ps : List Bp) (U : Nat → Prop) (h1 : BkAt w A c B d Bk.ex2 ps) (h2 : BkU U w A B ps) (hL : Len w) : Calls Tryz.prog 85 #[.agg #[.slice A 1 c, .slice B 1 d], .agg #[.string ⟨#[97]⟩, .string ⟨#[113]⟩, .bool false, .string ⟨#[120]⟩, .slice none 0 0, .bool false]] w fun e w' => ∃ A c B d ps, e = .returned (.tuple #[.agg #[.slice A 1 c, .slice B 2 d], .int .i64 0]) ∧ BkAt w' A c B d Bk.ex3 ps ∧ BkU (fun g => U g ∨ w.heap.size ≤ g) w' A B ps ∧ Below w.heap.size w w' := by
  have h := rtBind_any Bk.ex2 A c B d ps Bk.exY none 0 w U Bk.ex_ok2 h1 h2 (ex_bdOk w _ (.inr rfl)) hL
  rw [Bk.ex_3] at h
  exact h
theorem ex_leads (w : World) (A : Option Addr) (c : Nat) (B : Option Addr) (d : Nat) (ps : List Bp) (h1 : BkAt w A c B d Bk.ex3 ps) (hL : Len w) : Calls Tryz.prog 86 #[.agg #[.slice A 1 c, .slice B 2 d], .string ⟨#[97]⟩, .string ⟨#[]⟩, .slice none 0 0] w fun e w' => ∃ A' c' B' d', e = .returned (.tuple #[.slice A' 1 c', .slice B' 0 d', .int .i64 0]) ∧ Rws w' A' (sts [[113]]) ∧ Below w.heap.size w w' := by
  have h := rtLeads_any Bk.ex3 A c B d ps [97] [] [] none 0 w (by decide) (by decide) (by decide) h1 (by decide) (by decide) (Prs.nil _ _) hL
  rw [exl_q, exl_p, exl_c] at h
  refine h.mono ?_
  rintro e w' ⟨A', c', B', d', rfl, -, -, h3, -, -, -, h4⟩
  exact ⟨A', c', B', d', rfl, h3, h4⟩
end Go.Proofs.YtaikigponkjkgaaGreatDoor
end
section
namespace Go.Proofs.YtaikigponkjkgaaGreatDoor
open Go.ChangeShapes Go.WideShapes Go.ChangeAt Go.RowKit
set_option maxRecDepth 100000 in
set_option maxHeartbeats 8000000 in
theorem rt_awake_any (w : World) (hL : Len w) : Calls Tryz.prog 39 #[] w fun e w' => e = .returned (.bool true) ∧ Below w.heap.size w w' := by
  have HM := Lib.hid (ex_make w)
  have HLL := Lib.hid hL
  clear hL
  go_enter Tryz.func39, Tryz.ntmps39
  go_wp2_with fail
  refine HM.out.mono ?_
  rintro e w1 ⟨A, c, B, d, ps, rfl, hI1, hU1, hb1⟩
  have hx1 := rtAt0 w1 #[.slice A 1 c, .slice B 0 d] 133
  have HX1 := Lib.hid hx1
  have hb2 := rtOne w1 (.cells #[.slice A 1 c, .slice B 0 d] 133)
  have HB2 := Lib.hid (bthen hb1 hb2 (Nat.le_refl _))
  have HI2 := Lib.hid (hI1.on hb2)
  have HU2 := Lib.hid (hU1.self.on hb2.size)
  have HL2 := Lib.hid ((HLL.out.on hb1).on hb2)
  have HS2 := Lib.hid (show w.heap.size ≤ w1.heap.size from hb1.size)
  clear hx1 hI1 hU1 hb2 hb1
  go_upto_region 2 with fail
  generalize w1.alloc (.cells #[.slice A 1 c, .slice B 0 d] 133) = w2 at *
  have x0 := HX1.out.cs 0 _ rfl
  have x1 := HX1.out.cs 1 _ rfl
  have xl := HX1.out.lt
  have xf := HX1.out.s
  unfold Soft at xf
  have HP2 := Lib.hid (ex_bind1 w2 A c B d ps _ HI2.out HU2.out HL2.out)
  go_wp2_with fail
  refine HP2.out.mono ?_
  rintro e w3 ⟨A3, c3, B3, d3, ps3, rfl, hI3, hU3, hb3⟩
  have HX3 := Lib.hid (HX1.out.on hb3)
  have HB3 := Lib.hid (bthen HB2.out hb3 (Nat.le_refl _))
  have HL3 := Lib.hid (HL2.out.on hb3)
  have hnu : ¬ ((w.heap.size ≤ w1.heap.size ∧ w1.heap.size < w1.heap.size) ∨ w2.heap.size ≤ w1.heap.size) := by have := HX1.out.lt; omega
  have hi4 := (hI3.put hU3 hnu 0 (.slice A3 1 c3)).put (hU3.put w1.heap.size 0 (.slice A3 1 c3)) hnu 1 (.slice B3 1 d3)
  have hu4 := (hU3.put w1.heap.size 0 (.slice A3 1 c3)).put w1.heap.size 1 (.slice B3 1 d3)
  have hx4 := HX3.out.fill [.slice A3 1 c3, .slice B3 1 d3] rfl
  have hb4 := below_putAll (w := w) (g := w1.heap.size) HS2.out [.slice A3 1 c3, .slice B3 1 d3] 0 HB3.out
  simp only [putAll] at hx4 hb4
  have HX4 := Lib.hid hx4
  have HB4 := Lib.hid hb4
  have HI4 := Lib.hid hi4
  have HU4 := Lib.hid hu4
  have HL4 := Lib.hid (HLL.out.on hb4)
  clear hx4 hb4 hi4 hu4 hnu hI3 hU3 hb3
  clear x0 x1 xl xf
  have x0 := HX3.out.cs 0 _ rfl
  have x1 := HX3.out.cs 1 _ rfl
  have xl := HX3.out.lt
  have xf := HX3.out.s
  unfold Soft at xf
  go_upto_region 3 with fail
  generalize ((w3.setCell ⟨w1.heap.size, 0, none⟩ (.slice A3 1 c3)).setCell ⟨w1.heap.size, 1, none⟩ (.slice B3 1 d3)) = w4 at *
  clear x0 x1 xl xf
  have x0 := HX4.out.cs 0 _ rfl
  have x1 := HX4.out.cs 1 _ rfl
  have xl := HX4.out.lt
  have xf := HX4.out.s
  unfold Soft at xf
  have HP4 := Lib.hid (ex_bind2 w4 A3 c3 B3 d3 ps3 _ HI4.out HU4.out HL4.out)
  go_wp2_with fail
  refine HP4.out.mono ?_
  rintro e w5 ⟨A5, c5, B5, d5, ps5, rfl, hI5, hU5, hb5⟩
  have HX5 := Lib.hid (HX4.out.on hb5)
  have HB5 := Lib.hid (bthen HB4.out hb5 (Nat.le_refl _))
  have HL5 := Lib.hid (HL4.out.on hb5)
  have hnu : ¬ (((w.heap.size ≤ w1.heap.size ∧ w1.heap.size < w1.heap.size) ∨ w2.heap.size ≤ w1.heap.size) ∨ w4.heap.size ≤ w1.heap.size) := by have := HX1.out.lt; have := HX4.out.lt; omega
  have hi6 := (hI5.put hU5 hnu 0 (.slice A5 1 c5)).put (hU5.put w1.heap.size 0 (.slice A5 1 c5)) hnu 1 (.slice B5 2 d5)
  have hx6 := HX5.out.fill [.slice A5 1 c5, .slice B5 2 d5] rfl
  have hb6 := below_putAll (w := w) (g := w1.heap.size) HS2.out [.slice A5 1 c5, .slice B5 2 d5] 0 HB5.out
  simp only [putAll] at hx6 hb6
  have HX6 := Lib.hid hx6
  have HB6 := Lib.hid hb6
  have HI6 := Lib.hid hi6
  have HL6 := Lib.hid (HLL.out.on hb6)
  clear hx6 hb6 hi6 hnu hI5 hU5 hb5
  clear x0 x1 xl xf
  have x0 := HX5.out.cs 0 _ rfl
  have x1 := HX5.out.cs 1 _ rfl
  have xl := HX5.out.lt
  have xf := HX5.out.s
  unfold Soft at xf
  go_upto_region 4 with fail
  generalize ((w5.setCell ⟨w1.heap.size, 0, none⟩ (.slice A5 1 c5)).setCell ⟨w1.heap.size, 1, none⟩ (.slice B5 2 d5)) = w6 at *
  clear x0 x1 xl xf
  have x0 := HX6.out.cs 0 _ rfl
  have x1 := HX6.out.cs 1 _ rfl
  have xl := HX6.out.lt
  have HP6 := Lib.hid (ex_leads w6 A5 c5 B5 d5 ps5 HI6.out HL6.out)
  go_wp2_with fail
  refine HP6.out.mono ?_
  rintro e w7 ⟨A7, c7, B7, d7, rfl, hR7, hb7⟩
  have HB7 := Lib.hid (bthen HB6.out hb7 (Nat.le_refl _))
  have HL7 := Lib.hid (HL6.out.on hb7)
  have HR7 := Lib.hid hR7
  clear hR7 hb7 x0 x1 xl
  go_wp2_with fail
  refine (law4Awake_any _ HL7.out).mono ?_
  rintro e w8 ⟨rfl, hb8⟩
  have HB8 := Lib.hid (bthen HB7.out hb8 (Nat.le_refl _))
  have HL8 := Lib.hid (HL7.out.on hb8)
  have HR8 := Lib.hid (Rws.on HR7.out hb8)
  clear hb8
  go_wp2_with fail
  refine (rt_law10_any _ HL8.out).mono ?_
  rintro e w9 ⟨rfl, hb9⟩
  have HB9 := Lib.hid (bthen HB8.out hb9 (Nat.le_refl _))
  have HL9 := Lib.hid (HL8.out.on hb9)
  have HR9 := Lib.hid (Rws.on HR8.out hb9)
  clear hb9
  have HB10 := Lib.hid (bthen HB9.out (rtOne w9 (.cells #[.string ⟨#[113]⟩] 9)) (Nat.le_refl _))
  go_wp2_with fail
  have hs1 : Rws (w9.alloc (.cells #[.string ⟨#[113]⟩] 9)) (some ⟨w9.heap.size, 0, none⟩) (sts [[113]]) := Rws.of_news (fun j u hu => by
    have hc := (rtAt0 w9 #[.string ⟨#[113]⟩] 9).cs
    exact (congrArg (fun n => (w9.alloc (.cells #[.string ⟨#[113]⟩] 9)).cell? ⟨w9.heap.size, n, none⟩) (Nat.zero_add j)).trans (hc j u hu))
  refine (eqS_any [[113]] [[113]] A7 c7 (some ⟨w9.heap.size, 0, none⟩) 1 _ (by decide) (by decide) (Rws.on HR9.out (rtOne w9 _)) hs1).mono ?_
  rintro e w11 ⟨rfl, hb11⟩
  have HB11 := Lib.hid (bthen HB10.out hb11 (Nat.le_refl _))
  clear hb11 hs1
  rw [show decide ([[113]] = ([[113]] : List (List UInt8))) = true from rfl]
  go_wp2_with fail
  go_ret
  exact ⟨rfl, HB11.out⟩
end Go.Proofs.YtaikigponkjkgaaGreatDoor
end
section
namespace Go.Proofs.YtaikigponkjkgaaGreatDoor
open Go.ChangeShapes Go.WideShapes Go.ChangeAt Go.RowKit
def exDe : De := De.of 11 1
theorem exDe_code : exDe.code = 0 := by decide
theorem exDe_len : exDe.enc.length = 9 := by decide
theorem deOk_of (k t : Nat) (w : World) : DeOk w (De.of k t) none 0 none 0 := ⟨Nat.zero_le _, Nat.zero_le _, Nat.zero_le _, Nat.zero_le _, ⟨Nat.zero_le _, Nat.zero_le _, Nat.zero_le _, Nat.zero_le _, Nat.le_refl _, lite_nil, Prs.nil _ _⟩, Nat.zero_le _, ⟨Nat.zero_le _, Nat.zero_le _, Nat.zero_le _, Nat.zero_le _, Nat.le_refl _, lite_nil, Prs.nil _ _⟩, Nat.zero_le _⟩
theorem deFits_of {k t : Nat} (hk : k < 256) (ht : t < 18446744073709551616) : De.Fits (De.of k t) :=
  ⟨hk, ht, (show 0 < 256 by decide), (show 0 < 18446744073709551616 by decide), (show 0 < 18446744073709551616 by decide), fun p hp => absurd hp (by simp [De.of, Bk.Bd0]), (show 0 < 18446744073709551616 by decide), (show 0 < 256 by decide), (show 0 < 256 by decide), (show 0 < 256 by decide), (show 0 < 18446744073709551616 by decide), ⟨(show 0 < 18446744073709551616 by decide), (show 0 < 18446744073709551616 by decide), (show 0 < 256 by decide), fun p hp => absurd hp (by simp [De.of, Ml.zero])⟩⟩
theorem ex22_bytes (w : World) (_hL : Len w) : Calls Tryz.prog 13 #[deV exDe none 0 none 0] w fun e w' => e = .returned (.tuple #[.string (ofL exDe.enc), .int .i64 0]) ∧ Below w.heap.size w w' := by
  have h := ddBytes11_any exDe none 0 none 0 w (deOk_of 11 1 w) (deFits_of (by decide) (by decide)) rfl (by decide)
  rwa [show deBytesV exDe = .tuple #[.string (ofL exDe.enc), .int .i64 0] by unfold deBytesV; rw [if_pos exDe_code]] at h
theorem dd_law13Awake (w : World) (hL : Len w) : Calls Tryz.prog 14 #[] w fun e w' => e = .returned (.bool true) ∧ Below w.heap.size w w' := by
  have HA := Lib.hid (awake13_any w hL)
  go_enter Tryz.func14, Tryz.ntmps14
  go_wp2_with fail
  refine HA.out.mono ?_
  rintro x w1 ⟨rfl, b1⟩
  have B1 := Lib.hid b1
  clear b1
  go_wp2_with fail
  go_ret
  exact ⟨rfl, B1.out⟩
theorem dd_law14Awake (w : World) (hL : Len w) : Calls Tryz.prog 15 #[] w fun e w' => e = .returned (.bool true) ∧ Below w.heap.size w w' := by
  have HA := Lib.hid (rt_awake_any w hL)
  go_enter Tryz.func15, Tryz.ntmps15
  go_wp2_with fail
  refine HA.out.mono ?_
  rintro x w1 ⟨rfl, b1⟩
  have B1 := Lib.hid b1
  clear b1
  go_wp2_with fail
  go_ret
  exact ⟨rfl, B1.out⟩
set_option maxRecDepth 100000 in
set_option maxHeartbeats 4000000 in
theorem law22awake_any (w : World) (hL : Len w) : Calls Tryz.prog 6 #[] w fun e w' => e = .returned (.bool true) ∧ Below w.heap.size w w' := by
  have HX := Lib.hid (ex22_bytes w hL)
  have HL := Lib.hid hL
  have hz : (ofL exDe.enc).size = 9 := by rw [ofL_size, exDe_len]
  clear hL
  generalize ofL exDe.enc = E at *
  go_enter Tryz.func6, Tryz.ntmps6
  go_wp2_with (refine wpList_buildTo (by rfl) 52 _ (by rfl) _ (by rfl) (deL exDe none 0 none 0).toArray (by kernel_rfl) ?_)
  refine HX.out.mono ?_
  rintro e w1 ⟨rfl, b1⟩
  have HL1 := Lib.hid (HL.out.on b1)
  have HB1 := Lib.hid b1
  clear b1
  go_wp2_with fail
  refine (dd_law13Awake _ HL1.out).mono ?_
  rintro e w2 ⟨rfl, b2⟩
  have HL2 := Lib.hid (HL1.out.on b2)
  have HB2 := Lib.hid (bthen HB1.out b2 (Nat.le_refl _))
  clear b2
  go_wp2_with fail
  refine (dd_law14Awake _ HL2.out).mono ?_
  rintro e w3 ⟨rfl, b3⟩
  have HB3 := Lib.hid (bthen HB2.out b3 (Nat.le_refl _))
  clear b3
  go_wp2_with fail
  go_ret
  exact ⟨rfl, HB3.out⟩
end Go.Proofs.YtaikigponkjkgaaGreatDoor
end
section
namespace Go.Proofs.YtaikigponkjkgaaGreatDoor
open Go.ChangeShapes Go.WideShapes Go.ChangeAt Go.RowKit
theorem dp_of_din {w : World} {A : Option Addr} {l : List Dp} (h : Din w A l) (hl : ∀ p ∈ l, deLight p.x = true) : Dps w A l := ⟨h.row, fun p hp => de_light_Ok (hl p hp) (h.in_ p hp)⟩
theorem lightAll_mem {l : List Dp} (h : lightAll l = true) : ∀ p ∈ l, deLight p.x = true := fun p hp => List.all_eq_true.1 h p hp
theorem pack_len {l : List De} (h : De.packc l = 0) : (De.pack l).length ≤ 700000 ∧ 0 < (De.pack l).length := by
  obtain ⟨h1, h2⟩ := De.packc_zero h
  have h3 := De.encs_le h2
  unfold De.pack
  rw [List.length_append, Oct.length_be]
  omega
set_option maxRecDepth 100000 in
set_option maxHeartbeats 16000000 in
theorem deedShort_walk (A0 : Option Addr) (c0 : Nat) (l : List Dp) (cut : Nat) (w : World) (hl : l.length ≤ 409120605673) (hI : Din w A0 l) (hcut : cut < 65536) (hL : Len w) :
    Calls Tryz.prog 5 #[.slice A0 l.length c0, .int .u16 (cut : Int)] w fun e w' => e = .returned (.bool true) ∧ Below w.heap.size w w' := by
  have HAW := Lib.hid (fun W g => law22awake_any W g)
  have HAL := Lib.hid (fun W g => law22All_any l A0 c0 W hl g)
  have HI := Lib.hid hI
  have HL0 := Lib.hid hL
  have HFT := Lib.hid (fun p (hp : p ∈ l) => (hI.in_ p hp).fits)
  have HFX : Hid (∀ x ∈ l.map Dp.x, De.Fits x) := fun x hx => by
    obtain ⟨p, hp, rfl⟩ := List.mem_map.1 hx
    exact (hI.in_ p hp).fits
  have HLM := Lib.hid (fun h => lightAll_mem (l := l) h)
  have HPK := Lib.hid (fun W (h1 : l.length ≤ 100000) h2 h3 => ddPack_any l A0 c0 W h1 h2 (fun p hp => (hI.in_ p hp).fits) h3)
  obtain ⟨n, hn⟩ : ∃ n, n = l.length := ⟨_, rfl⟩
  have HN := Lib.hid hn
  rw [← hn] at HAL HPK ⊢
  have hnl : n ≤ 409120605673 := by omega
  clear hI hL hl hn
  unfold AllPost at HAL
  go_enter Tryz.func5, Tryz.ntmps5
  go_wp2_with fail
  refine (HAW.out _ HL0.out).mono ?_
  rintro e w1 ⟨rfl, b1⟩
  have HB1 := Lib.hid b1
  clear b1
  go_wp2_with fail
  refine (HAL.out _ (din_on HI.out HB1.out)).mono ?_
  rintro e w2 ⟨A2, c2, q2, rfl, -, -, -, b2⟩
  have HB2 := Lib.hid (bthen HB1.out b2 (Nat.le_refl _))
  clear b2 HAL
  by_cases h300 : 300 < n
  · have hq : (300 : Int) < (n : Int) := by omega
    go_wp2_with fail
    go_ret
    exact ⟨rfl, HB2.out⟩
  · have hq : ¬ (300 : Int) < (n : Int) := by omega
    cases hla : lightAll l with
    | false =>
      go_wp2_with fail
      go_ret
      exact ⟨rfl, HB2.out⟩
    | true =>
      have HD := Lib.hid (dp_of_din HI.out (HLM.out hla))
      clear hla
      go_wp2_with fail
      refine (HPK.out _ (by omega) (HD.out.on HB2.out) (HL0.out.on HB2.out)).mono ?_
      obtain ⟨PV, hPV⟩ : ∃ PV, packV (l.map Dp.x) = PV := ⟨_, rfl⟩
      rw [hPV]
      rintro e w3 ⟨rfl, b3⟩
      have HB3 := Lib.hid (bthen HB2.out b3 (Nat.le_refl _))
      clear b3 HPK
      by_cases hc : De.packc (l.map Dp.x) = 0
      · rw [show packV (l.map Dp.x) = .tuple #[.string (ofL (De.pack (l.map Dp.x))), .int .i64 0] by unfold packV; rw [if_pos hc]] at hPV
        subst hPV
        obtain ⟨hp1, hp2⟩ := pack_len hc
        obtain ⟨m, hm⟩ : ∃ m, m = (De.pack (l.map Dp.x)).length := ⟨_, rfl⟩
        have hez : (ofL (De.pack (l.map Dp.x))).size = m := by rw [ofL_size, hm]
        obtain ⟨K, hK, hKl⟩ : ∃ K : Nat, (cut : Int) % (m : Int) = (K : Int) ∧ K < m := ⟨cut % m, by rw [Int.natCast_emod], Nat.mod_lt _ (by omega)⟩
        have hsl := fun W => slice_to_l (P := Tryz.prog) Tryz.underlying9 (De.pack (l.map Dp.x)) .i64 (K : Int) K rfl (by omega) W
        have hno := De.un_short HFX.out hc (m := K) (by omega)
        have HUN := Lib.hid (fun W h => ddUnpack_any ((De.pack (l.map Dp.x)).take K) W (by rw [List.length_take]; omega) h)
        have hm0 : (m : Int) ≠ 0 := by omega
        have hm1 : ((m : Int) == 0) = false := by rw [beq_eq_false_iff_ne]; exact hm0
        have hwc : IntKind.i64.wrap (cut : Int) = (cut : Int) := by rw [wi64 cut (by omega)]; unfold Hd.i64; rw [if_pos (by omega)]
        generalize (De.pack (l.map Dp.x)).take K = F at *
        generalize De.pack (l.map Dp.x) = E at *
        clear hc hp1 hm
        go_wp2_with fail
        refine (HUN.out _ (HL0.out.on HB3.out)).mono ?_
        rintro e w4 ⟨A4, c4, q4, rfl, hq4, -, -, -, b4⟩
        have hz : q4.length = 0 := by
          rw [← List.length_map (f := Dp.x), hq4]
          unfold De.un
          rw [hno]
          rfl
        have hcd : unC F = 4 := by unfold unC; rw [hno]; rfl
        rw [hz, hcd]
        have HB4 := Lib.hid (bthen HB3.out b4 (Nat.le_refl _))
        clear b4 hq4 hz hcd HUN
        go_wp2_with fail
        go_ret
        exact ⟨rfl, HB4.out⟩
      · rw [show packV (l.map Dp.x) = .tuple #[.string ⟨#[]⟩, .int .i64 (De.packc (l.map Dp.x) : Int)] by unfold packV; rw [if_neg hc]] at hPV
        subst hPV
        have hce : ((De.packc (l.map Dp.x) : Int) != 0) = true := by rw [bne_iff_ne]; omega
        generalize De.packc (l.map Dp.x) = PC at *
        go_wp2_with fail
        go_ret
        exact ⟨rfl, HB3.out⟩
end Go.Proofs.YtaikigponkjkgaaGreatDoor
end
