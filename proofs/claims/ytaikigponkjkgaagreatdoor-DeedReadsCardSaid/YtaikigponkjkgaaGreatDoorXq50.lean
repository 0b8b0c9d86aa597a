/-
 A part of the proof.
-/
import Derived.Test.YtaikigponkjkgaaGreatDoorXq49
import Derived.Great.BuildSlice
section
namespace Go.Proofs.YtaikigponkjkgaaGreatDoor
open Go.ChangeShapes Go.WideShapes Go.ChangeAt Go.RowKit
open Go.Lib (hid)
set_option maxRecDepth 100000 in
set_option maxHeartbeats 16000000 in
theorem r22Check_any (x : De) (A : Option Addr) (c : Nat) (B : Option Addr) (d : Nat) (w : World) (h : DeOk w x A c B d) :
  Calls Tryz.prog 23 #[deV x A c B d] w fun e w' => e = .returned (.int .i64 (x.code : Int)) ∧ Below w.heap.size w w' := by
 have HB1 := hid (rtOne w (.cells #[.int .u8 (x.kd : Int), .int .u64 (x.tick : Int), .string (ofL x.shop.name), .int .u8 (x.shop.sort : Int), .string (ofL x.shop.to), .string (ofL x.q.name), .int .u64 (x.q.most : Int), .int .u64 (x.q.life : Int), .string (ofL x.q.dead), .string (ofL x.bind.shop), .string (ofL x.bind.to), .bool x.bind.up, .string (ofL x.bind.key), .slice A x.bind.want.length c, .bool x.bind.all, .string (ofL x.name), .int .u64 (x.id : Int), .int .u8 (x.how : Int), .int .u8 (x.frm : Int), .int .u8 (x.cd : Int), .int .u64 (x.num : Int), .int .u64 (x.mail.id : Int), .string (ofL x.mail.shop), .string (ofL x.mail.key), .slice B x.mail.head.length d, .string (ofL x.mail.body), .int .u64 (x.mail.due : Int), .int .u8 (x.mail.hops : Int), .string (ofL x.text)] 59))
 have HX1 := hid (DeX.start w x A c B d h.bind.row h.mail.row 59)
 have HOK := hid h
 have HSPR := hid (fun W g1 g2 => r22spare_any x A c B d W h.bind.len h.mail.len g1 g2)
 clear h
 simp only [deV]
 go_enter Tryz.func23, Tryz.ntmps23
 go_upto_region 1 with fail
 generalize w.alloc (.cells #[.int .u8 (x.kd : Int), .int .u64 (x.tick : Int), .string (ofL x.shop.name), .int .u8 (x.shop.sort : Int), .string (ofL x.shop.to), .string (ofL x.q.name), .int .u64 (x.q.most : Int), .int .u64 (x.q.life : Int), .string (ofL x.q.dead), .string (ofL x.bind.shop), .string (ofL x.bind.to), .bool x.bind.up, .string (ofL x.bind.key), .slice A x.bind.want.length c, .bool x.bind.all, .string (ofL x.name), .int .u64 (x.id : Int), .int .u8 (x.how : Int), .int .u8 (x.frm : Int), .int .u8 (x.cd : Int), .int .u64 (x.num : Int), .int .u64 (x.mail.id : Int), .string (ofL x.mail.shop), .string (ofL x.mail.key), .slice B x.mail.head.length d, .string (ofL x.mail.body), .int .u64 (x.mail.due : Int), .int .u8 (x.mail.hops : Int), .string (ofL x.text)] 59) = W1 at *
 have c0 := HX1.out.p.cs 0 _ rfl
 have cl := HX1.out.p.lt
 by_cases h12 : 12 < x.kd
 ·have hz : decide ((x.kd : Int) > 12) = true := decide_eq_true (by omega)
  have hz' : decide ((12 : Int) < (x.kd : Int)) = true := decide_eq_true (by omega)
  have HE := hid (De.code_big h12)
  clear h12
  go_wp2_with fail
  go_ret
  exact ⟨ret_nat (by rw [HE.out]; rfl), HB1.out⟩
 ·have hz : decide ((x.kd : Int) > 12) = false := decide_eq_false (by omega)
  have hz' : decide ((12 : Int) < (x.kd : Int)) = false := decide_eq_false (by omega)
  have hst := De.spare_told h12
  have H12 := hid h12
  clear h12
  go_upto_region 3 with fail
  clear c0 cl hz hz'
  cases hs : decide (x = x.told) with
  | false =>
   rw [hs] at hst
   rw [hst] at HSPR
   have HE := hid (De.code_form H12.out (of_decide_eq_false hs))
   clear hs hst
   go_wp2_with (refine wpList_load_mid (by rfl) 59 _ (by rfl) w.heap.size 0 (by rfl) (deL x A c B d) _ HX1.out.p.cs.range Tryz.underlying59 rfl (by rw [rde_size, deL_len]) ?_)
   refine (HSPR.out _ HX1.out.ra HX1.out.rb).mono ?_
   rintro e w2 ⟨rfl, b2⟩
   have HB2 := hid (bthen HB1.out b2 (Nat.le_refl _))
   clear b2
   go_wp2_with fail
   go_ret
   exact ⟨ret_nat (by rw [HE.out]; rfl), HB2.out⟩
  | true =>
   rw [hs] at hst
   rw [hst] at HSPR
   have HT := hid (of_decide_eq_true hs)
   have HEB := hid (De.code_body H12.out HT.out)
   clear hs hst
   go_wp2_with (refine wpList_load_mid (by rfl) 59 _ (by rfl) w.heap.size 0 (by rfl) (deL x A c B d) _ HX1.out.p.cs.range Tryz.underlying59 rfl (by rw [rde_size, deL_len]) ?_)
   refine (HSPR.out _ HX1.out.ra HX1.out.rb).mono ?_
   rintro e wc ⟨rfl, b2⟩
   have HB3 := hid (bthen HB1.out b2 (Nat.le_refl _))
   have HX3 := hid (HX1.out.on b2)
   clear b2
   go_upto_region 6 with fail
   have h13 : x.kd = 0 ∨ x.kd = 1 ∨ x.kd = 2 ∨ x.kd = 3 ∨ x.kd = 4 ∨ x.kd = 5 ∨ x.kd = 6 ∨ x.kd = 7 ∨ x.kd = 8 ∨ x.kd = 9 ∨ x.kd = 10 ∨ x.kd = 11 ∨ x.kd = 12 := by have := H12.out; omega
   rcases h13 with hk | hk | hk | hk | hk | hk | hk | hk | hk | hk | hk | hk | hk
   ·have HE := hid (HEB.out.trans (De.body_0 hk))
    have hw0 : x.how = 0 := by have g := congrArg De.how HT.out; rw [De.told_0 hk] at g; exact g
    have c0 : wc.cell? ⟨w.heap.size, 0, none⟩ = some (.int .u8 0) := by have g := HX3.out.p.cs 0 _ rfl; rw [hk] at g; exact g
    have cl := HX3.out.p.lt
    have c17 : wc.cell? ⟨w.heap.size, 17, none⟩ = some (.int .u8 0) := by have g := HX3.out.p.cs 17 _ rfl; rw [hw0] at g; exact g
    clear hk hw0
    have HNM := hid (show ∀ W, Calls Tryz.prog 51 #[.int .u8 0] W fun e w' => e = .returned (.bool false) ∧ W = w' from fun W => r22names_any 0 W)
    have c2 := HX3.out.p.cs 2 _ rfl
    have c3 := HX3.out.p.cs 3 _ rfl
    have c4 := HX3.out.p.cs 4 _ rfl
    have HN1 := hid (fun W => rname_any x.shop.name W (by have := HOK.out.sn; omega))
    have HM1 := hid (fun W => r22maybe_any x.shop.to W HOK.out.st)
    have HC : Hid (x.code = if Wrd.nameCode x.shop.name ≠ 0 then Wrd.nameCode x.shop.name else if 4 < x.shop.sort then 8 else De.maybe x.shop.to) := HE.out
    clear HE
    generalize Wrd.nameCode x.shop.name = K1 at *
    generalize De.maybe x.shop.to = M1 at *
    by_cases zK1 : K1 = 0
    ·have fK1 : ((K1 : Int) == 0) = true := by rw [zK1]; rfl
     by_cases h4 : 4 < x.shop.sort
     ·have hz : decide ((x.shop.sort : Int) > 4) = true := decide_eq_true (by omega)
      have HE := hid (show x.code = 8 by rw [HC.out, if_neg (by omega), if_pos h4])
      clear zK1
      go_wp2_with fail
      refine (HN1.out _).mono ?_
      rintro e w4 ⟨rfl, rfl⟩
      go_wp2_with fail
      refine (HNM.out _).mono ?_
      rintro e wn ⟨rfl, rfl⟩
      go_wp2_with fail
      go_ret
      exact ⟨ret_nat (by rw [HE.out]; rfl), HB3.out⟩
     ·have hz : decide ((x.shop.sort : Int) > 4) = false := decide_eq_false (by omega)
      have hz2 : decide ((4 : Int) < (x.shop.sort : Int)) = false := decide_eq_false (by omega)
      have HE := hid (show x.code = M1 by rw [HC.out, if_neg (by omega), if_neg h4])
      clear h4
      by_cases zM1 : M1 = 0
      ·have fM1 : ((M1 : Int) == 0) = true := by rw [zM1]; rfl
       clear zM1 zK1
       go_wp2_with fail
       refine (HN1.out _).mono ?_
       rintro e w4 ⟨rfl, rfl⟩
       go_wp2_with fail
       refine (HM1.out _).mono ?_
       rintro e w5 ⟨rfl, rfl⟩
       go_wp2_with fail
       refine (HNM.out _).mono ?_
       rintro e wn ⟨rfl, rfl⟩
       go_wp2_with fail
       go_ret
       exact ⟨ret_nat (by rw [HE.out]), HB3.out⟩
      ·have fM1 : ((M1 : Int) == 0) = false := beq_eq_false_iff_ne.2 (by omega)
       clear zM1 zK1
       go_wp2_with fail
       refine (HN1.out _).mono ?_
       rintro e w4 ⟨rfl, rfl⟩
       go_wp2_with fail
       refine (HM1.out _).mono ?_
       rintro e w5 ⟨rfl, rfl⟩
       go_wp2_with fail
       refine (HNM.out _).mono ?_
       rintro e wn ⟨rfl, rfl⟩
       go_wp2_with fail
       go_ret
       exact ⟨ret_nat (by rw [HE.out]), HB3.out⟩
    ·have fK1 : ((K1 : Int) == 0) = false := beq_eq_false_iff_ne.2 (by omega)
     have HE := hid (show x.code = K1 by rw [HC.out, if_pos zK1])
     go_wp2_with fail
     refine (HN1.out _).mono ?_
     rintro e w4 ⟨rfl, rfl⟩
     go_wp2_with fail
     refine (HNM.out _).mono ?_
     rintro e wn ⟨rfl, rfl⟩
     go_wp2_with fail
     go_ret
     exact ⟨ret_nat (by rw [HE.out]), HB3.out⟩
   ·have HE := hid (HEB.out.trans (De.body_1 hk))
    have hw0 : x.how = 0 := by have g := congrArg De.how HT.out; rw [De.told_1 hk] at g; exact g
    have c0 : wc.cell? ⟨w.heap.size, 0, none⟩ = some (.int .u8 1) := by have g := HX3.out.p.cs 0 _ rfl; rw [hk] at g; exact g
    have cl := HX3.out.p.lt
    have c17 : wc.cell? ⟨w.heap.size, 17, none⟩ = some (.int .u8 0) := by have g := HX3.out.p.cs 17 _ rfl; rw [hw0] at g; exact g
    clear hk hw0
    have HNM := hid (show ∀ W, Calls Tryz.prog 51 #[.int .u8 1] W fun e w' => e = .returned (.bool true) ∧ W = w' from fun W => r22names_any 1 W)
    have c15 := HX3.out.p.cs 15 _ rfl
    have HN1 := hid (fun W => rname_any x.name W (by have := HOK.out.name; omega))
    generalize Wrd.nameCode x.name = K1 at *
    by_cases zK1 : K1 = 0
    ·have fK1 : ((K1 : Int) == 0) = true := by rw [zK1]; rfl
     clear zK1
     go_wp2_with fail
     refine (HNM.out _).mono ?_
     rintro e wn ⟨rfl, rfl⟩
     go_wp2_with fail
     refine (HN1.out _).mono ?_
     rintro e w4 ⟨rfl, rfl⟩
     go_wp2_with fail
     go_ret
     exact ⟨ret_nat (by rw [HE.out]), HB3.out⟩
    ·have fK1 : ((K1 : Int) == 0) = false := beq_eq_false_iff_ne.2 (by omega)
     clear zK1
     go_wp2_with fail
     refine (HNM.out _).mono ?_
     rintro e wn ⟨rfl, rfl⟩
     go_wp2_with fail
     refine (HN1.out _).mono ?_
     rintro e w4 ⟨rfl, rfl⟩
     go_wp2_with fail
     go_ret
     exact ⟨ret_nat (by rw [HE.out]), HB3.out⟩
   ·have HE := hid (HEB.out.trans (De.body_2 hk))
    have hw0 : x.how = 0 := by have g := congrArg De.how HT.out; rw [De.told_2 hk] at g; exact g
    have c0 : wc.cell? ⟨w.heap.size, 0, none⟩ = some (.int .u8 2) := by have g := HX3.out.p.cs 0 _ rfl; rw [hk] at g; exact g
    have cl := HX3.out.p.lt
    have c17 : wc.cell? ⟨w.heap.size, 17, none⟩ = some (.int .u8 0) := by have g := HX3.out.p.cs 17 _ rfl; rw [hw0] at g; exact g
    clear hk hw0
    have HNM := hid (show ∀ W, Calls Tryz.prog 51 #[.int .u8 2] W fun e w' => e = .returned (.bool false) ∧ W = w' from fun W => r22names_any 2 W)
    have c5 := HX3.out.p.cs 5 _ rfl
    have c6 := HX3.out.p.cs 6 _ rfl
    have c7 := HX3.out.p.cs 7 _ rfl
    have c8 := HX3.out.p.cs 8 _ rfl
    have HN1 := hid (fun W => rname_any x.q.name W (by have := HOK.out.qn; omega))
    have HM1 := hid (fun W => r22maybe_any x.q.dead W HOK.out.qd)
    have HC : Hid (x.code = if Wrd.nameCode x.q.name ≠ 0 then Wrd.nameCode x.q.name else De.maybe x.q.dead) := HE.out
    clear HE
    generalize Wrd.nameCode x.q.name = K1 at *
    generalize De.maybe x.q.dead = M1 at *
    by_cases zK1 : K1 = 0
    ·have fK1 : ((K1 : Int) == 0) = true := by rw [zK1]; rfl
     have HE := hid (show x.code = M1 by rw [HC.out, if_neg (by omega)])
     by_cases zM1 : M1 = 0
     ·have fM1 : ((M1 : Int) == 0) = true := by rw [zM1]; rfl
      clear zM1 zK1
      go_wp2_with fail
      refine (HN1.out _).mono ?_
      rintro e w4 ⟨rfl, rfl⟩
      go_wp2_with fail
      refine (HM1.out _).mono ?_
      rintro e w5 ⟨rfl, rfl⟩
      go_wp2_with fail
      refine (HNM.out _).mono ?_
      rintro e wn ⟨rfl, rfl⟩
      go_wp2_with fail
      go_ret
      exact ⟨ret_nat (by rw [HE.out]), HB3.out⟩
     ·have fM1 : ((M1 : Int) == 0) = false := beq_eq_false_iff_ne.2 (by omega)
      clear zM1 zK1
      go_wp2_with fail
      refine (HN1.out _).mono ?_
      rintro e w4 ⟨rfl, rfl⟩
      go_wp2_with fail
      refine (HM1.out _).mono ?_
      rintro e w5 ⟨rfl, rfl⟩
      go_wp2_with fail
      refine (HNM.out _).mono ?_
      rintro e wn ⟨rfl, rfl⟩
      go_wp2_with fail
      go_ret
      exact ⟨ret_nat (by rw [HE.out]), HB3.out⟩
    ·have fK1 : ((K1 : Int) == 0) = false := beq_eq_false_iff_ne.2 (by omega)
     have HE := hid (show x.code = K1 by rw [HC.out, if_pos zK1])
     go_wp2_with fail
     refine (HN1.out _).mono ?_
     rintro e w4 ⟨rfl, rfl⟩
     go_wp2_with fail
     refine (HNM.out _).mono ?_
     rintro e wn ⟨rfl, rfl⟩
     go_wp2_with fail
     go_ret
     exact ⟨ret_nat (by rw [HE.out]), HB3.out⟩
   ·have HE := hid (HEB.out.trans (De.body_3 hk))
    have hw0 : x.how = 0 := by have g := congrArg De.how HT.out; rw [De.told_3 hk] at g; exact g
    have c0 : wc.cell? ⟨w.heap.size, 0, none⟩ = some (.int .u8 3) := by have g := HX3.out.p.cs 0 _ rfl; rw [hk] at g; exact g
    have cl := HX3.out.p.lt
    have c17 : wc.cell? ⟨w.heap.size, 17, none⟩ = some (.int .u8 0) := by have g := HX3.out.p.cs 17 _ rfl; rw [hw0] at g; exact g
    clear hk hw0
    have HNM := hid (show ∀ W, Calls Tryz.prog 51 #[.int .u8 3] W fun e w' => e = .returned (.bool true) ∧ W = w' from fun W => r22names_any 3 W)
    have c15 := HX3.out.p.cs 15 _ rfl
    have HN1 := hid (fun W => rname_any x.name W (by have := HOK.out.name; omega))
    generalize Wrd.nameCode x.name = K1 at *
    by_cases zK1 : K1 = 0
    ·have fK1 : ((K1 : Int) == 0) = true := by rw [zK1]; rfl
     clear zK1
     go_wp2_with fail
     refine (HNM.out _).mono ?_
     rintro e wn ⟨rfl, rfl⟩
     go_wp2_with fail
     refine (HN1.out _).mono ?_
     rintro e w4 ⟨rfl, rfl⟩
     go_wp2_with fail
     go_ret
     exact ⟨ret_nat (by rw [HE.out]), HB3.out⟩
    ·have fK1 : ((K1 : Int) == 0) = false := beq_eq_false_iff_ne.2 (by omega)
     clear zK1
     go_wp2_with fail
     refine (HNM.out _).mono ?_
     rintro e wn ⟨rfl, rfl⟩
     go_wp2_with fail
     refine (HN1.out _).mono ?_
     rintro e w4 ⟨rfl, rfl⟩
     go_wp2_with fail
     go_ret
     exact ⟨ret_nat (by rw [HE.out]), HB3.out⟩
   ·have HE := hid (HEB.out.trans (De.body_4 hk))
    have hw0 : x.how = 0 := by have g := congrArg De.how HT.out; rw [De.told_4 hk] at g; exact g
    have c0 : wc.cell? ⟨w.heap.size, 0, none⟩ = some (.int .u8 4) := by have g := HX3.out.p.cs 0 _ rfl; rw [hk] at g; exact g
    have cl := HX3.out.p.lt
    have c17 : wc.cell? ⟨w.heap.size, 17, none⟩ = some (.int .u8 0) := by have g := HX3.out.p.cs 17 _ rfl; rw [hw0] at g; exact g
    clear hk hw0
    have HNM := hid (show ∀ W, Calls Tryz.prog 51 #[.int .u8 4] W fun e w' => e = .returned (.bool false) ∧ W = w' from fun W => r22names_any 4 W)
    have c9 := HX3.out.p.cs 9 _ rfl
    have c10 := HX3.out.p.cs 10 _ rfl
    have c11 := HX3.out.p.cs 11 _ rfl
    have c12 := HX3.out.p.cs 12 _ rfl
    have c13 := HX3.out.p.cs 13 _ rfl
    have c14 := HX3.out.p.cs 14 _ rfl
    have HM1 := hid (fun W g => r22checkBind_any x.bind A c W g)
    generalize De.bdc x.bind = M1 at *
    simp only [bdV] at *
    by_cases zM1 : M1 = 0
    ·have fM1 : ((M1 : Int) == 0) = true := by rw [zM1]; rfl
     clear zM1
     go_wp2_with fail
     refine (HM1.out _ (HOK.out.bind.on HB3.out)).mono ?_
     rintro e w5 ⟨rfl, b5⟩
     have HB5 := hid (bthen HB3.out b5 (Nat.le_refl _))
     have c0 := (b5.cell (p := ⟨w.heap.size, 0, none⟩) cl).trans c0
     have c17 := (b5.cell (p := ⟨w.heap.size, 17, none⟩) cl).trans c17
     have cl := Nat.lt_of_lt_of_le cl b5.size
     clear b5
     go_wp2_with fail
     refine (HNM.out _).mono ?_
     rintro e wn ⟨rfl, rfl⟩
     go_wp2_with fail
     go_ret
     exact ⟨ret_nat (by rw [HE.out]), HB5.out⟩
    ·have fM1 : ((M1 : Int) == 0) = false := beq_eq_false_iff_ne.2 (by omega)
     clear zM1
     go_wp2_with fail
     refine (HM1.out _ (HOK.out.bind.on HB3.out)).mono ?_
     rintro e w5 ⟨rfl, b5⟩
     have HB5 := hid (bthen HB3.out b5 (Nat.le_refl _))
     have c0 := (b5.cell (p := ⟨w.heap.size, 0, none⟩) cl).trans c0
     have c17 := (b5.cell (p := ⟨w.heap.size, 17, none⟩) cl).trans c17
     have cl := Nat.lt_of_lt_of_le cl b5.size
     clear b5
     go_wp2_with fail
     refine (HNM.out _).mono ?_
     rintro e wn ⟨rfl, rfl⟩
     go_wp2_with fail
     go_ret
     exact ⟨ret_nat (by rw [HE.out]), HB5.out⟩
   ·have HE := hid (HEB.out.trans (De.body_5 hk))
    have hw0 : x.how = 0 := by have g := congrArg De.how HT.out; rw [De.told_5 hk] at g; exact g
    have c0 : wc.cell? ⟨w.heap.size, 0, none⟩ = some (.int .u8 5) := by have g := HX3.out.p.cs 0 _ rfl; rw [hk] at g; exact g
    have cl := HX3.out.p.lt
    have c17 : wc.cell? ⟨w.heap.size, 17, none⟩ = some (.int .u8 0) := by have g := HX3.out.p.cs 17 _ rfl; rw [hw0] at g; exact g
    clear hk hw0
    have HNM := hid (show ∀ W, Calls Tryz.prog 51 #[.int .u8 5] W fun e w' => e = .returned (.bool false) ∧ W = w' from fun W => r22names_any 5 W)
    have c9 := HX3.out.p.cs 9 _ rfl
    have c10 := HX3.out.p.cs 10 _ rfl
    have c11 := HX3.out.p.cs 11 _ rfl
    have c12 := HX3.out.p.cs 12 _ rfl
    have c13 := HX3.out.p.cs 13 _ rfl
    have c14 := HX3.out.p.cs 14 _ rfl
    have HM1 := hid (fun W g => r22checkBind_any x.bind A c W g)
    generalize De.bdc x.bind = M1 at *
    simp only [bdV] at *
    by_cases zM1 : M1 = 0
    ·have fM1 : ((M1 : Int) == 0) = true := by rw [zM1]; rfl
     clear zM1
     go_wp2_with fail
     refine (HM1.out _ (HOK.out.bind.on HB3.out)).mono ?_
     rintro e w5 ⟨rfl, b5⟩
     have HB5 := hid (bthen HB3.out b5 (Nat.le_refl _))
     have c0 := (b5.cell (p := ⟨w.heap.size, 0, none⟩) cl).trans c0
     have c17 := (b5.cell (p := ⟨w.heap.size, 17, none⟩) cl).trans c17
     have cl := Nat.lt_of_lt_of_le cl b5.size
     clear b5
     go_wp2_with fail
     refine (HNM.out _).mono ?_
     rintro e wn ⟨rfl, rfl⟩
     go_wp2_with fail
     go_ret
     exact ⟨ret_nat (by rw [HE.out]), HB5.out⟩
    ·have fM1 : ((M1 : Int) == 0) = false := beq_eq_false_iff_ne.2 (by omega)
     clear zM1
     go_wp2_with fail
     refine (HM1.out _ (HOK.out.bind.on HB3.out)).mono ?_
     rintro e w5 ⟨rfl, b5⟩
     have HB5 := hid (bthen HB3.out b5 (Nat.le_refl _))
     have c0 := (b5.cell (p := ⟨w.heap.size, 0, none⟩) cl).trans c0
     have c17 := (b5.cell (p := ⟨w.heap.size, 17, none⟩) cl).trans c17
     have cl := Nat.lt_of_lt_of_le cl b5.size
     clear b5
     go_wp2_with fail
     refine (HNM.out _).mono ?_
     rintro e wn ⟨rfl, rfl⟩
     go_wp2_with fail
     go_ret
     exact ⟨ret_nat (by rw [HE.out]), HB5.out⟩
   ·have HE := hid (HEB.out.trans (De.body_6 hk))
    have hw0 : x.how = 0 := by have g := congrArg De.how HT.out; rw [De.told_6 hk] at g; exact g
    have c0 : wc.cell? ⟨w.heap.size, 0, none⟩ = some (.int .u8 6) := by have g := HX3.out.p.cs 0 _ rfl; rw [hk] at g; exact g
    have cl := HX3.out.p.lt
    have c17 : wc.cell? ⟨w.heap.size, 17, none⟩ = some (.int .u8 0) := by have g := HX3.out.p.cs 17 _ rfl; rw [hw0] at g; exact g
    clear hk hw0
    have HNM := hid (show ∀ W, Calls Tryz.prog 51 #[.int .u8 6] W fun e w' => e = .returned (.bool false) ∧ W = w' from fun W => r22names_any 6 W)
    have c21 := HX3.out.p.cs 21 _ rfl
    have c22 := HX3.out.p.cs 22 _ rfl
    have c23 := HX3.out.p.cs 23 _ rfl
    have c24 := HX3.out.p.cs 24 _ rfl
    have c25 := HX3.out.p.cs 25 _ rfl
    have c26 := HX3.out.p.cs 26 _ rfl
    have c27 := HX3.out.p.cs 27 _ rfl
    have HM1 := hid (fun W g => r13Check_any x.mail B d W g)
    generalize x.mail.code = M1 at *
    simp only [maV] at *
    by_cases zM1 : M1 = 0
    ·have fM1 : ((M1 : Int) == 0) = true := by rw [zM1]; rfl
     clear zM1
     go_wp2_with fail
     refine (HM1.out _ (HOK.out.mail.on HB3.out)).mono ?_
     rintro e w5 ⟨rfl, b5⟩
     have HB5 := hid (bthen HB3.out b5 (Nat.le_refl _))
     have c0 := (b5.cell (p := ⟨w.heap.size, 0, none⟩) cl).trans c0
     have c17 := (b5.cell (p := ⟨w.heap.size, 17, none⟩) cl).trans c17
     have cl := Nat.lt_of_lt_of_le cl b5.size
     clear b5
     go_wp2_with fail
     refine (HNM.out _).mono ?_
     rintro e wn ⟨rfl, rfl⟩
     go_wp2_with fail
     go_ret
     exact ⟨ret_nat (by rw [HE.out]), HB5.out⟩
    ·have fM1 : ((M1 : Int) == 0) = false := beq_eq_false_iff_ne.2 (by omega)
     clear zM1
     go_wp2_with fail
     refine (HM1.out _ (HOK.out.mail.on HB3.out)).mono ?_
     rintro e w5 ⟨rfl, b5⟩
     have HB5 := hid (bthen HB3.out b5 (Nat.le_refl _))
     have c0 := (b5.cell (p := ⟨w.heap.size, 0, none⟩) cl).trans c0
     have c17 := (b5.cell (p := ⟨w.heap.size, 17, none⟩) cl).trans c17
     have cl := Nat.lt_of_lt_of_le cl b5.size
     clear b5
     go_wp2_with fail
     refine (HNM.out _).mono ?_
     rintro e wn ⟨rfl, rfl⟩
     go_wp2_with fail
     go_ret
     exact ⟨ret_nat (by rw [HE.out]), HB5.out⟩
   ·have HE := hid (HEB.out.trans (De.body_7 hk))
    have hw0 : x.how = 0 := by have g := congrArg De.how HT.out; rw [De.told_7 hk] at g; exact g
    have c0 : wc.cell? ⟨w.heap.size, 0, none⟩ = some (.int .u8 7) := by have g := HX3.out.p.cs 0 _ rfl; rw [hk] at g; exact g
    have cl := HX3.out.p.lt
    have c17 : wc.cell? ⟨w.heap.size, 17, none⟩ = some (.int .u8 0) := by have g := HX3.out.p.cs 17 _ rfl; rw [hw0] at g; exact g
    clear hk hw0
    have HNM := hid (show ∀ W, Calls Tryz.prog 51 #[.int .u8 7] W fun e w' => e = .returned (.bool true) ∧ W = w' from fun W => r22names_any 7 W)
    have c15 := HX3.out.p.cs 15 _ rfl
    have HN1 := hid (fun W => rname_any x.name W (by have := HOK.out.name; omega))
    generalize Wrd.nameCode x.name = K1 at *
    by_cases zK1 : K1 = 0
    ·have fK1 : ((K1 : Int) == 0) = true := by rw [zK1]; rfl
     clear zK1
     go_wp2_with fail
     refine (HNM.out _).mono ?_
     rintro e wn ⟨rfl, rfl⟩
     go_wp2_with fail
     refine (HN1.out _).mono ?_
     rintro e w4 ⟨rfl, rfl⟩
     go_wp2_with fail
     go_ret
     exact ⟨ret_nat (by rw [HE.out]), HB3.out⟩
    ·have fK1 : ((K1 : Int) == 0) = false := beq_eq_false_iff_ne.2 (by omega)
     clear zK1
     go_wp2_with fail
     refine (HNM.out _).mono ?_
     rintro e wn ⟨rfl, rfl⟩
     go_wp2_with fail
     refine (HN1.out _).mono ?_
     rintro e w4 ⟨rfl, rfl⟩
     go_wp2_with fail
     go_ret
     exact ⟨ret_nat (by rw [HE.out]), HB3.out⟩
   ·have HE := hid (HEB.out.trans (De.body_8 hk))
    have c0 : wc.cell? ⟨w.heap.size, 0, none⟩ = some (.int .u8 8) := by have g := HX3.out.p.cs 0 _ rfl; rw [hk] at g; exact g
    have cl := HX3.out.p.lt
    have c17 := HX3.out.p.cs 17 _ rfl
    clear hk
    have HNM := hid (show ∀ W, Calls Tryz.prog 51 #[.int .u8 8] W fun e w' => e = .returned (.bool true) ∧ W = w' from fun W => r22names_any 8 W)
    have c15 := HX3.out.p.cs 15 _ rfl
    have HN1 := hid (fun W => rname_any x.name W (by have := HOK.out.name; omega))
    have HC : Hid (x.code = if Wrd.nameCode x.name ≠ 0 then Wrd.nameCode x.name else if 2 < x.how then 7 else 0) := HE.out
    clear HE
    generalize Wrd.nameCode x.name = K1 at *
    by_cases zK1 : K1 = 0
    ·have fK1 : ((K1 : Int) == 0) = true := by rw [zK1]; rfl
     by_cases h2 : 2 < x.how
     ·have hz : decide ((x.how : Int) > 2) = true := decide_eq_true (by omega)
      have HE := hid (show x.code = 7 by rw [HC.out, if_neg (by omega), if_pos h2])
      clear h2 zK1
      go_wp2_with fail
      refine (HNM.out _).mono ?_
      rintro e wn ⟨rfl, rfl⟩
      go_wp2_with fail
      refine (HN1.out _).mono ?_
      rintro e w4 ⟨rfl, rfl⟩
      go_wp2_with fail
      go_ret
      exact ⟨ret_nat (by rw [HE.out]; rfl), HB3.out⟩
     ·have hz : decide ((x.how : Int) > 2) = false := decide_eq_false (by omega)
      have hz2 : decide ((2 : Int) < (x.how : Int)) = false := decide_eq_false (by omega)
      have HE := hid (show x.code = K1 by rw [HC.out, if_neg (by omega), if_neg h2, zK1])
      clear h2 zK1
      go_wp2_with fail
      refine (HNM.out _).mono ?_
      rintro e wn ⟨rfl, rfl⟩
      go_wp2_with fail
      refine (HN1.out _).mono ?_
      rintro e w4 ⟨rfl, rfl⟩
      go_wp2_with fail
      go_ret
      exact ⟨ret_nat (by rw [HE.out]), HB3.out⟩
    ·have fK1 : ((K1 : Int) == 0) = false := beq_eq_false_iff_ne.2 (by omega)
     have HE := hid (show x.code = K1 by rw [HC.out, if_pos zK1])
     clear zK1
     go_wp2_with fail
     refine (HNM.out _).mono ?_
     rintro e wn ⟨rfl, rfl⟩
     go_wp2_with fail
     refine (HN1.out _).mono ?_
     rintro e w4 ⟨rfl, rfl⟩
     go_wp2_with fail
     go_ret
     exact ⟨ret_nat (by rw [HE.out]), HB3.out⟩
   ·have HE := hid (HEB.out.trans (De.body_9 hk))
    have hw0 : x.how = 0 := by have g := congrArg De.how HT.out; rw [De.told_9 hk] at g; exact g
    have c0 : wc.cell? ⟨w.heap.size, 0, none⟩ = some (.int .u8 9) := by have g := HX3.out.p.cs 0 _ rfl; rw [hk] at g; exact g
    have cl := HX3.out.p.lt
    have c17 : wc.cell? ⟨w.heap.size, 17, none⟩ = some (.int .u8 0) := by have g := HX3.out.p.cs 17 _ rfl; rw [hw0] at g; exact g
    clear hk hw0
    have HNM := hid (show ∀ W, Calls Tryz.prog 51 #[.int .u8 9] W fun e w' => e = .returned (.bool false) ∧ W = w' from fun W => r22names_any 9 W)
    go_wp2_with fail
    refine (HNM.out _).mono ?_
    rintro e wn ⟨rfl, rfl⟩
    go_wp2_with fail
    go_ret
    exact ⟨ret_nat (by rw [HE.out]; rfl), HB3.out⟩
   ·have HE := hid (HEB.out.trans (De.body_10 hk))
    have hw0 : x.how = 0 := by have g := congrArg De.how HT.out; rw [De.told_10 hk] at g; exact g
    have c0 : wc.cell? ⟨w.heap.size, 0, none⟩ = some (.int .u8 10) := by have g := HX3.out.p.cs 0 _ rfl; rw [hk] at g; exact g
    have cl := HX3.out.p.lt
    have c17 : wc.cell? ⟨w.heap.size, 17, none⟩ = some (.int .u8 0) := by have g := HX3.out.p.cs 17 _ rfl; rw [hw0] at g; exact g
    clear hk hw0
    have HNM := hid (show ∀ W, Calls Tryz.prog 51 #[.int .u8 10] W fun e w' => e = .returned (.bool false) ∧ W = w' from fun W => r22names_any 10 W)
    have c21 := HX3.out.p.cs 21 _ rfl
    have c22 := HX3.out.p.cs 22 _ rfl
    have c23 := HX3.out.p.cs 23 _ rfl
    have c24 := HX3.out.p.cs 24 _ rfl
    have c25 := HX3.out.p.cs 25 _ rfl
    have c26 := HX3.out.p.cs 26 _ rfl
    have c27 := HX3.out.p.cs 27 _ rfl
    have HM1 := hid (fun W g => r13Check_any x.mail B d W g)
    generalize x.mail.code = M1 at *
    simp only [maV] at *
    by_cases zM1 : M1 = 0
    ·have fM1 : ((M1 : Int) == 0) = true := by rw [zM1]; rfl
     clear zM1
     go_wp2_with fail
     refine (HM1.out _ (HOK.out.mail.on HB3.out)).mono ?_
     rintro e w5 ⟨rfl, b5⟩
     have HB5 := hid (bthen HB3.out b5 (Nat.le_refl _))
     have c0 := (b5.cell (p := ⟨w.heap.size, 0, none⟩) cl).trans c0
     have c17 := (b5.cell (p := ⟨w.heap.size, 17, none⟩) cl).trans c17
     have cl := Nat.lt_of_lt_of_le cl b5.size
     clear b5
     go_wp2_with fail
     refine (HNM.out _).mono ?_
     rintro e wn ⟨rfl, rfl⟩
     go_wp2_with fail
     go_ret
     exact ⟨ret_nat (by rw [HE.out]), HB5.out⟩
    ·have fM1 : ((M1 : Int) == 0) = false := beq_eq_false_iff_ne.2 (by omega)
     clear zM1
     go_wp2_with fail
     refine (HM1.out _ (HOK.out.mail.on HB3.out)).mono ?_
     rintro e w5 ⟨rfl, b5⟩
     have HB5 := hid (bthen HB3.out b5 (Nat.le_refl _))
     have c0 := (b5.cell (p := ⟨w.heap.size, 0, none⟩) cl).trans c0
     have c17 := (b5.cell (p := ⟨w.heap.size, 17, none⟩) cl).trans c17
     have cl := Nat.lt_of_lt_of_le cl b5.size
     clear b5
     go_wp2_with fail
     refine (HNM.out _).mono ?_
     rintro e wn ⟨rfl, rfl⟩
     go_wp2_with fail
     go_ret
     exact ⟨ret_nat (by rw [HE.out]), HB5.out⟩
   ·have HE := hid (HEB.out.trans (De.body_11 hk))
    have hw0 : x.how = 0 := by have g := congrArg De.how HT.out; rw [De.told_11 hk] at g; exact g
    have c0 : wc.cell? ⟨w.heap.size, 0, none⟩ = some (.int .u8 11) := by have g := HX3.out.p.cs 0 _ rfl; rw [hk] at g; exact g
    have cl := HX3.out.p.lt
    have c17 : wc.cell? ⟨w.heap.size, 17, none⟩ = some (.int .u8 0) := by have g := HX3.out.p.cs 17 _ rfl; rw [hw0] at g; exact g
    clear hk hw0
    have HNM := hid (show ∀ W, Calls Tryz.prog 51 #[.int .u8 11] W fun e w' => e = .returned (.bool false) ∧ W = w' from fun W => r22names_any 11 W)
    go_wp2_with fail
    refine (HNM.out _).mono ?_
    rintro e wn ⟨rfl, rfl⟩
    go_wp2_with fail
    go_ret
    exact ⟨ret_nat (by rw [HE.out]; rfl), HB3.out⟩
   ·have HE := hid (HEB.out.trans (De.body_12 hk))
    have hw0 : x.how = 0 := by have g := congrArg De.how HT.out; rw [De.told_12 hk] at g; exact g
    have c0 : wc.cell? ⟨w.heap.size, 0, none⟩ = some (.int .u8 12) := by have g := HX3.out.p.cs 0 _ rfl; rw [hk] at g; exact g
    have cl := HX3.out.p.lt
    have c17 : wc.cell? ⟨w.heap.size, 17, none⟩ = some (.int .u8 0) := by have g := HX3.out.p.cs 17 _ rfl; rw [hw0] at g; exact g
    clear hk hw0
    have HNM := hid (show ∀ W, Calls Tryz.prog 51 #[.int .u8 12] W fun e w' => e = .returned (.bool false) ∧ W = w' from fun W => r22names_any 12 W)
    have c28 := HX3.out.p.cs 28 _ rfl
    have hz0 : (ofL x.text).size = x.text.length := ofL_size _
    by_cases h6 : 64 < x.text.length
    ·have h7 : 64 < (ofL x.text).size := by omega
     have hz : decide (((ofL x.text).size : Int) > 64) = true := decide_eq_true (by omega)
     rw [if_pos h6] at HE
     clear h6 hz0
     go_wp2_with fail
     refine (HNM.out _).mono ?_
     rintro e wn ⟨rfl, rfl⟩
     go_wp2_with fail
     go_ret
     exact ⟨ret_nat (by rw [HE.out]; rfl), HB3.out⟩
    ·have h7 : ¬ 64 < (ofL x.text).size := by omega
     have hz : decide (((ofL x.text).size : Int) > 64) = false := decide_eq_false (by omega)
     rw [if_neg h6] at HE
     clear h6 hz0
     go_wp2_with fail
     refine (HNM.out _).mono ?_
     rintro e wn ⟨rfl, rfl⟩
     go_wp2_with fail
     go_ret
     exact ⟨ret_nat (by rw [HE.out]; rfl), HB3.out⟩
end Go.Proofs.YtaikigponkjkgaaGreatDoor
end
