/-
 A part of the proof.
-/
import Derived.Test.YtaikigponkjkgaaGreatDoorXr45
import Derived.Deep.DeepCutAuto
section
namespace Go.Proofs.YtaikigponkjkgaaGreatDoor
open Go.ChangeShapes Go.WideShapes Go.ChangeAt Go.RowKit
open Go.Lib (hid)
namespace De
def p1 (x : De) : Bool := (x.kd != 0 && !decide (x.shop = Bk.Sh0)) || (x.kd != 2 && !decide (x.q = Qu0))
def p2 (x : De) : Bool := x.kd != 4 && (x.kd != 5 && !decide (x.bind = Bk.Bd0))
def p3 (x : De) : Bool := (!names x.kd && x.name != []) || (x.kd != 8 && (x.id != 0 || x.how != 0))
def p4 (x : De) : Bool := (x.kd != 10 && (x.frm != 0 || x.num != 0)) || (x.kd != 12 && (x.cd != 0 || x.text != []))
def p5 (x : De) : Bool := x.kd != 6 && (x.kd != 10 && !decide (x.mail = Ml.zero))
def spare (x : De) : Bool := p1 x || (p2 x || (p3 x || (p4 x || p5 x)))
theorem spare_0 {x : De} (hk : x.kd = 0) : spare x = !decide (x = x.told) := by
 rw [told_0 hk]
 obtain ⟨kd, tick, shop, q, bind, name, id, how, frm, cd, num, mail, text⟩ := x
 simp only at hk
 subst hk
 rw [Bool.eq_iff_iff]
 simp [spare, p1, p2, p3, p4, p5, names, of, De.mk.injEq]
 try grind
theorem spare_1 {x : De} (hk : x.kd = 1) : spare x = !decide (x = x.told) := by
 rw [told_1 hk]
 obtain ⟨kd, tick, shop, q, bind, name, id, how, frm, cd, num, mail, text⟩ := x
 simp only at hk
 subst hk
 rw [Bool.eq_iff_iff]
 simp [spare, p1, p2, p3, p4, p5, names, of, De.mk.injEq]
 try grind
theorem spare_2 {x : De} (hk : x.kd = 2) : spare x = !decide (x = x.told) := by
 rw [told_2 hk]
 obtain ⟨kd, tick, shop, q, bind, name, id, how, frm, cd, num, mail, text⟩ := x
 simp only at hk
 subst hk
 rw [Bool.eq_iff_iff]
 simp [spare, p1, p2, p3, p4, p5, names, of, De.mk.injEq]
 try grind
theorem spare_3 {x : De} (hk : x.kd = 3) : spare x = !decide (x = x.told) := by
 rw [told_3 hk]
 obtain ⟨kd, tick, shop, q, bind, name, id, how, frm, cd, num, mail, text⟩ := x
 simp only at hk
 subst hk
 rw [Bool.eq_iff_iff]
 simp [spare, p1, p2, p3, p4, p5, names, of, De.mk.injEq]
 try grind
theorem spare_4 {x : De} (hk : x.kd = 4) : spare x = !decide (x = x.told) := by
 rw [told_4 hk]
 obtain ⟨kd, tick, shop, q, bind, name, id, how, frm, cd, num, mail, text⟩ := x
 simp only at hk
 subst hk
 rw [Bool.eq_iff_iff]
 simp [spare, p1, p2, p3, p4, p5, names, of, De.mk.injEq]
 try grind
theorem spare_5 {x : De} (hk : x.kd = 5) : spare x = !decide (x = x.told) := by
 rw [told_5 hk]
 obtain ⟨kd, tick, shop, q, bind, name, id, how, frm, cd, num, mail, text⟩ := x
 simp only at hk
 subst hk
 rw [Bool.eq_iff_iff]
 simp [spare, p1, p2, p3, p4, p5, names, of, De.mk.injEq]
 try grind
theorem spare_6 {x : De} (hk : x.kd = 6) : spare x = !decide (x = x.told) := by
 rw [told_6 hk]
 obtain ⟨kd, tick, shop, q, bind, name, id, how, frm, cd, num, mail, text⟩ := x
 simp only at hk
 subst hk
 rw [Bool.eq_iff_iff]
 simp [spare, p1, p2, p3, p4, p5, names, of, De.mk.injEq]
 try grind
theorem spare_7 {x : De} (hk : x.kd = 7) : spare x = !decide (x = x.told) := by
 rw [told_7 hk]
 obtain ⟨kd, tick, shop, q, bind, name, id, how, frm, cd, num, mail, text⟩ := x
 simp only at hk
 subst hk
 rw [Bool.eq_iff_iff]
 simp [spare, p1, p2, p3, p4, p5, names, of, De.mk.injEq]
 try grind
theorem spare_8 {x : De} (hk : x.kd = 8) : spare x = !decide (x = x.told) := by
 rw [told_8 hk]
 obtain ⟨kd, tick, shop, q, bind, name, id, how, frm, cd, num, mail, text⟩ := x
 simp only at hk
 subst hk
 rw [Bool.eq_iff_iff]
 simp [spare, p1, p2, p3, p4, p5, names, of, De.mk.injEq]
 try grind
theorem spare_9 {x : De} (hk : x.kd = 9) : spare x = !decide (x = x.told) := by
 rw [told_9 hk]
 obtain ⟨kd, tick, shop, q, bind, name, id, how, frm, cd, num, mail, text⟩ := x
 simp only at hk
 subst hk
 rw [Bool.eq_iff_iff]
 simp [spare, p1, p2, p3, p4, p5, names, of, De.mk.injEq]
 try grind
theorem spare_10 {x : De} (hk : x.kd = 10) : spare x = !decide (x = x.told) := by
 rw [told_10 hk]
 obtain ⟨kd, tick, shop, q, bind, name, id, how, frm, cd, num, mail, text⟩ := x
 simp only at hk
 subst hk
 rw [Bool.eq_iff_iff]
 simp [spare, p1, p2, p3, p4, p5, names, of, De.mk.injEq]
 try grind
theorem spare_11 {x : De} (hk : x.kd = 11) : spare x = !decide (x = x.told) := by
 rw [told_11 hk]
 obtain ⟨kd, tick, shop, q, bind, name, id, how, frm, cd, num, mail, text⟩ := x
 simp only at hk
 subst hk
 rw [Bool.eq_iff_iff]
 simp [spare, p1, p2, p3, p4, p5, names, of, De.mk.injEq]
 try grind
theorem spare_12 {x : De} (hk : x.kd = 12) : spare x = !decide (x = x.told) := by
 rw [told_12 hk]
 obtain ⟨kd, tick, shop, q, bind, name, id, how, frm, cd, num, mail, text⟩ := x
 simp only at hk
 subst hk
 rw [Bool.eq_iff_iff]
 simp [spare, p1, p2, p3, p4, p5, names, of, De.mk.injEq]
 try grind
theorem spare_told {x : De} (h : ¬ 12 < x.kd) : spare x = !decide (x = x.told) := by
 have h13 : x.kd = 0 ∨ x.kd = 1 ∨ x.kd = 2 ∨ x.kd = 3 ∨ x.kd = 4 ∨ x.kd = 5 ∨ x.kd = 6 ∨ x.kd = 7 ∨ x.kd = 8 ∨ x.kd = 9 ∨ x.kd = 10 ∨ x.kd = 11 ∨ x.kd = 12 := by omega
 rcases h13 with h | h | h | h | h | h | h | h | h | h | h | h | h
 ·exact spare_0 h
 ·exact spare_1 h
 ·exact spare_2 h
 ·exact spare_3 h
 ·exact spare_4 h
 ·exact spare_5 h
 ·exact spare_6 h
 ·exact spare_7 h
 ·exact spare_8 h
 ·exact spare_9 h
 ·exact spare_10 h
 ·exact spare_11 h
 ·exact spare_12 h
end De
set_option maxRecDepth 100000 in
set_option maxHeartbeats 16000000 in
theorem r22spare_any (x : De) (A : Option Addr) (c : Nat) (B : Option Addr) (d : Nat) (w : World) (hl : x.bind.want.length ≤ 100000) (hm : x.mail.head.length ≤ 100000) (hA : Prs w A x.bind.want) (hB : Prs w B x.mail.head) :
  Calls Tryz.prog 46 #[deV x A c B d] w fun e w' => e = .returned (.bool (De.spare x)) ∧ Below w.heap.size w w' := by
 have HB1 := hid (rtOne w (.cells #[.int .u8 (x.kd : Int), .int .u64 (x.tick : Int), .string (ofL x.shop.name), .int .u8 (x.shop.sort : Int), .string (ofL x.shop.to), .string (ofL x.q.name), .int .u64 (x.q.most : Int), .int .u64 (x.q.life : Int), .string (ofL x.q.dead), .string (ofL x.bind.shop), .string (ofL x.bind.to), .bool x.bind.up, .string (ofL x.bind.key), .slice A x.bind.want.length c, .bool x.bind.all, .string (ofL x.name), .int .u64 (x.id : Int), .int .u8 (x.how : Int), .int .u8 (x.frm : Int), .int .u8 (x.cd : Int), .int .u64 (x.num : Int), .int .u64 (x.mail.id : Int), .string (ofL x.mail.shop), .string (ofL x.mail.key), .slice B x.mail.head.length d, .string (ofL x.mail.body), .int .u64 (x.mail.due : Int), .int .u8 (x.mail.hops : Int), .string (ofL x.text)] 59))
 have HX1 := hid (DeX.start w x A c B d hA hB 59)
 have hqs : ∀ W, (Op.equalIn 10000 55 (.agg #[.string (ofL x.shop.name), .int .u8 (x.shop.sort : Int), .string (ofL x.shop.to)]) (.agg #[.string ⟨#[]⟩, .int .u8 0, .string ⟨#[]⟩])).run Tryz.prog W = .ok (decide (x.shop = Bk.Sh0)) W := fun W => rsh_eq x.shop Bk.Sh0 W
 have hqq : ∀ W, (Op.equalIn 10000 56 (.agg #[.string (ofL x.q.name), .int .u64 (x.q.most : Int), .int .u64 (x.q.life : Int), .string (ofL x.q.dead)]) (.agg #[.string ⟨#[]⟩, .int .u64 0, .int .u64 0, .string ⟨#[]⟩])).run Tryz.prog W = .ok (decide (x.q = De.Qu0)) W := fun W => rqu_eq x.q De.Qu0 W
 have hbc : ∀ W, Prs W A x.bind.want → Prs W none [] → Calls Tryz.prog 65 #[.agg #[.string (ofL x.bind.shop), .string (ofL x.bind.to), .bool x.bind.up, .string (ofL x.bind.key), .slice A x.bind.want.length c, .bool x.bind.all], .agg #[.string ⟨#[]⟩, .string ⟨#[]⟩, .bool false, .string ⟨#[]⟩, .slice none 0 0, .bool false]] W fun e w' => e = .returned (.bool (decide (x.bind = Bk.Bd0))) ∧ Below W.heap.size W w' := fun W h1 h2 => rbind_dec x.bind Bk.Bd0 A c none 0 W hl (Nat.zero_le _) h1 h2
 have hmc : ∀ W, Prs W B x.mail.head → Prs W none [] → Calls Tryz.prog 66 #[.agg #[.int .u64 (x.mail.id : Int), .string (ofL x.mail.shop), .string (ofL x.mail.key), .slice B x.mail.head.length d, .string (ofL x.mail.body), .int .u64 (x.mail.due : Int), .int .u8 (x.mail.hops : Int)], .agg #[.int .u64 0, .string ⟨#[]⟩, .string ⟨#[]⟩, .slice none 0 0, .string ⟨#[]⟩, .int .u64 0, .int .u8 0]] W fun e w' => e = .returned (.bool (decide (x.mail = Ml.zero))) ∧ Below W.heap.size W w' := fun W h1 h2 => rmail_dec x.mail Ml.zero B d none 0 W hm (Nat.zero_le _) h1 h2
 have HBC := hid hbc
 have HMC := hid hmc
 have HQS0 := hid hqs
 have HQQ0 := hid hqq
 have HNM := hid (fun W => r22names_any x.kd W)
 have HS0 : Hid (De.spare x = (De.p1 x || (De.p2 x || (De.p3 x || (De.p4 x || De.p5 x))))) := rfl
 clear hl hm hA hB hqs hqq hbc hmc
 simp only [deV]
 go_enter Tryz.func46, Tryz.ntmps46
 go_upto_region 1 with fail
 generalize w.alloc (.cells #[.int .u8 (x.kd : Int), .int .u64 (x.tick : Int), .string (ofL x.shop.name), .int .u8 (x.shop.sort : Int), .string (ofL x.shop.to), .string (ofL x.q.name), .int .u64 (x.q.most : Int), .int .u64 (x.q.life : Int), .string (ofL x.q.dead), .string (ofL x.bind.shop), .string (ofL x.bind.to), .bool x.bind.up, .string (ofL x.bind.key), .slice A x.bind.want.length c, .bool x.bind.all, .string (ofL x.name), .int .u64 (x.id : Int), .int .u8 (x.how : Int), .int .u8 (x.frm : Int), .int .u8 (x.cd : Int), .int .u64 (x.num : Int), .int .u64 (x.mail.id : Int), .string (ofL x.mail.shop), .string (ofL x.mail.key), .slice B x.mail.head.length d, .string (ofL x.mail.body), .int .u64 (x.mail.due : Int), .int .u8 (x.mail.hops : Int), .string (ofL x.text)] 59) = W1 at *
 have c0 := HX1.out.p.cs 0 _ rfl
 have cl := HX1.out.p.lt
 go_upto_region 2 with fail
 clear c0 cl
 go_cut [23] (fun s23 wx => s23 = .bool (De.p1 x) ∧ wx = W1)
 case first =>
  have HQS := HQS0.out
  have HQQ := HQQ0.out
  have c2 := HX1.out.p.cs 2 _ rfl
  have c3 := HX1.out.p.cs 3 _ rfl
  have c4 := HX1.out.p.cs 4 _ rfl
  have c5 := HX1.out.p.cs 5 _ rfl
  have c6 := HX1.out.p.cs 6 _ rfl
  have c7 := HX1.out.p.cs 7 _ rfl
  have c8 := HX1.out.p.cs 8 _ rfl
  have cl := HX1.out.p.lt
  by_cases k0 : x.kd = 0
  ·have f0 : ((x.kd : Int) != 0) = false := by rw [k0]; rfl
   have k2 : ¬ x.kd = 2 := by omega
   have f2 : ((x.kd : Int) != 2) = true := by rw [bne_iff_ne]; omega
   by_cases z_q : x.q = De.Qu0
   ·rw [decide_eq_true z_q] at HQQ
    have HE := hid (show De.p1 x = false by unfold De.p1; simp [k0, z_q])
    clear k0 k2 z_q
    go_wp2_with fail
    go_meet
    exact ⟨by rw [HE.out], rfl⟩
   ·rw [decide_eq_false z_q] at HQQ
    have HE := hid (show De.p1 x = true by unfold De.p1; simp [k0, z_q])
    clear k0 k2 z_q
    go_wp2_with fail
    go_meet
    exact ⟨by rw [HE.out], rfl⟩
  ·have f0 : ((x.kd : Int) != 0) = true := by rw [bne_iff_ne]; omega
   by_cases z_shop : x.shop = Bk.Sh0
   ·rw [decide_eq_true z_shop] at HQS
    by_cases k2 : x.kd = 2
    ·have f2 : ((x.kd : Int) != 2) = false := by rw [k2]; rfl
     have HE := hid (show De.p1 x = false by unfold De.p1; simp [z_shop, k2])
     clear k0 z_shop k2
     go_wp2_with fail
     go_meet
     exact ⟨by rw [HE.out], rfl⟩
    ·have f2 : ((x.kd : Int) != 2) = true := by rw [bne_iff_ne]; omega
     by_cases z_q : x.q = De.Qu0
     ·rw [decide_eq_true z_q] at HQQ
      have HE := hid (show De.p1 x = false by unfold De.p1; simp [z_shop, z_q])
      clear k0 z_shop k2 z_q
      go_wp2_with fail
      go_meet
      exact ⟨by rw [HE.out], rfl⟩
     ·rw [decide_eq_false z_q] at HQQ
      have HE := hid (show De.p1 x = true by unfold De.p1; simp [z_shop, k2, z_q])
      clear k0 z_shop k2 z_q
      go_wp2_with fail
      go_meet
      exact ⟨by rw [HE.out], rfl⟩
   ·rw [decide_eq_false z_shop] at HQS
    have HE := hid (show De.p1 x = true by unfold De.p1; simp [k0, z_shop])
    clear k0 z_shop
    go_wp2_with fail
    go_meet
    exact ⟨by rw [HE.out], rfl⟩
 case rest =>
  obtain ⟨rfl, rfl⟩ := hcut
  cases e_p1 : De.p1 x with
  | true =>
   have HE := hid (show De.spare x = true by rw [HS0.out, e_p1]; simp)
   clear e_p1
   go_wp2_with fail
   go_ret
   exact ⟨ret_bool HE.out.symm, HB1.out⟩
  | false =>
   go_upto_region 4 with fail
   go_cut [36] (fun s36 wx => s36 = .bool (De.p2 x) ∧ DeX w x A c B d w.heap.size wx ∧ Below w.heap.size w wx)
   case first =>
    have c9 := HX1.out.p.cs 9 _ rfl
    have c10 := HX1.out.p.cs 10 _ rfl
    have c11 := HX1.out.p.cs 11 _ rfl
    have c12 := HX1.out.p.cs 12 _ rfl
    have c13 := HX1.out.p.cs 13 _ rfl
    have c14 := HX1.out.p.cs 14 _ rfl
    have cl := HX1.out.p.lt
    by_cases k4 : x.kd = 4
    ·have f4 : ((x.kd : Int) != 4) = false := by rw [k4]; rfl
     have HE := hid (show De.p2 x = false by unfold De.p2; simp [k4])
     clear k4
     go_wp2_with fail
     go_meet
     exact ⟨by rw [HE.out], HX1.out, HB1.out⟩
    ·have f4 : ((x.kd : Int) != 4) = true := by rw [bne_iff_ne]; omega
     by_cases k5 : x.kd = 5
     ·have f5 : ((x.kd : Int) != 5) = false := by rw [k5]; rfl
      have HE := hid (show De.p2 x = false by unfold De.p2; simp [k5])
      clear k4 k5
      go_wp2_with fail
      go_meet
      exact ⟨by rw [HE.out], HX1.out, HB1.out⟩
     ·have f5 : ((x.kd : Int) != 5) = true := by rw [bne_iff_ne]; omega
      by_cases z_bind : x.bind = Bk.Bd0
      ·rw [decide_eq_true z_bind] at HBC
       have HE := hid (show De.p2 x = false by unfold De.p2; simp [z_bind])
       clear k4 k5 z_bind
       go_wp2_with fail
       refine (HBC.out _ HX1.out.ra (Prs.nil _ _)).mono ?_
       rintro e wb ⟨rfl, bb⟩
       have HBb := hid (bthen HB1.out bb (Nat.le_refl _))
       have HXb := hid (HX1.out.on bb)
       clear bb
       go_wp2_with fail
       go_meet
       exact ⟨by rw [HE.out], HXb.out, HBb.out⟩
      ·rw [decide_eq_false z_bind] at HBC
       have HE := hid (show De.p2 x = true by unfold De.p2; simp [k4, k5, z_bind])
       clear k4 k5 z_bind
       go_wp2_with fail
       refine (HBC.out _ HX1.out.ra (Prs.nil _ _)).mono ?_
       rintro e wb ⟨rfl, bb⟩
       have HBb := hid (bthen HB1.out bb (Nat.le_refl _))
       have HXb := hid (HX1.out.on bb)
       clear bb
       go_wp2_with fail
       go_meet
       exact ⟨by rw [HE.out], HXb.out, HBb.out⟩
   case rest =>
    obtain ⟨rfl, hX2, hB2⟩ := hcut
    have HX2 := hid hX2
    have HB2 := hid hB2
    clear hX2 hB2 HX1 HB1
    cases e_p2 : De.p2 x with
    | true =>
     have HE := hid (show De.spare x = true by rw [HS0.out, e_p2]; simp)
     clear e_p2
     go_wp2_with fail
     go_ret
     exact ⟨ret_bool HE.out.symm, HB2.out⟩
    | false =>
     go_upto_region 6 with fail
     go_cut [58] (fun s58 wx => s58 = .bool (De.p3 x) ∧ wx = wc)
     case first =>
      have c15 := HX2.out.p.cs 15 _ rfl
      have c16 := HX2.out.p.cs 16 _ rfl
      have c17 := HX2.out.p.cs 17 _ rfl
      have cl := HX2.out.p.lt
      cases nb : De.names x.kd with
      | true =>
       rw [nb] at HNM
       by_cases k8 : x.kd = 8
       ·have f8 : ((x.kd : Int) != 8) = false := by rw [k8]; rfl
        have HE := hid (show De.p3 x = false by unfold De.p3; rw [nb]; simp [k8])
        clear nb k8
        go_wp2_with fail
        refine (HNM.out _).mono ?_
        rintro e wn ⟨rfl, rfl⟩
        go_wp2_with fail
        go_meet
        exact ⟨by rw [HE.out], rfl⟩
       ·have f8 : ((x.kd : Int) != 8) = true := by rw [bne_iff_ne]; omega
        by_cases z_id : x.id = 0
        ·have g_id : ((x.id : Int) != 0) = false := by rw [z_id]; rfl
         by_cases z_how : x.how = 0
         ·have g_how : ((x.how : Int) != 0) = false := by rw [z_how]; rfl
          have HE := hid (show De.p3 x = false by unfold De.p3; rw [nb]; simp [z_id, z_how])
          clear nb k8 z_id z_how
          go_wp2_with fail
          refine (HNM.out _).mono ?_
          rintro e wn ⟨rfl, rfl⟩
          go_wp2_with fail
          go_meet
          exact ⟨by rw [HE.out], rfl⟩
         ·have g_how : ((x.how : Int) != 0) = true := by rw [bne_iff_ne]; omega
          have HE := hid (show De.p3 x = true by unfold De.p3; rw [nb]; simp [k8, z_id, z_how])
          clear nb k8 z_id z_how
          go_wp2_with fail
          refine (HNM.out _).mono ?_
          rintro e wn ⟨rfl, rfl⟩
          go_wp2_with fail
          go_meet
          exact ⟨by rw [HE.out], rfl⟩
        ·have g_id : ((x.id : Int) != 0) = true := by rw [bne_iff_ne]; omega
         have HE := hid (show De.p3 x = true by unfold De.p3; rw [nb]; simp [k8, z_id])
         clear nb k8 z_id
         go_wp2_with fail
         refine (HNM.out _).mono ?_
         rintro e wn ⟨rfl, rfl⟩
         go_wp2_with fail
         go_meet
         exact ⟨by rw [HE.out], rfl⟩
      | false =>
       rw [nb] at HNM
       by_cases z_name : x.name = []
       ·have g_name := emp_yes z_name
        by_cases k8 : x.kd = 8
        ·have f8 : ((x.kd : Int) != 8) = false := by rw [k8]; rfl
         have HE := hid (show De.p3 x = false by unfold De.p3; rw [nb]; simp [z_name, k8])
         clear nb z_name k8
         go_wp2_with fail
         refine (HNM.out _).mono ?_
         rintro e wn ⟨rfl, rfl⟩
         go_wp2_with fail
         go_meet
         exact ⟨by rw [HE.out], rfl⟩
        ·have f8 : ((x.kd : Int) != 8) = true := by rw [bne_iff_ne]; omega
         by_cases z_id : x.id = 0
         ·have g_id : ((x.id : Int) != 0) = false := by rw [z_id]; rfl
          by_cases z_how : x.how = 0
          ·have g_how : ((x.how : Int) != 0) = false := by rw [z_how]; rfl
           have HE := hid (show De.p3 x = false by unfold De.p3; rw [nb]; simp [z_name, z_id, z_how])
           clear nb z_name k8 z_id z_how
           go_wp2_with fail
           refine (HNM.out _).mono ?_
           rintro e wn ⟨rfl, rfl⟩
           go_wp2_with fail
           go_meet
           exact ⟨by rw [HE.out], rfl⟩
          ·have g_how : ((x.how : Int) != 0) = true := by rw [bne_iff_ne]; omega
           have HE := hid (show De.p3 x = true by unfold De.p3; rw [nb]; simp [z_name, k8, z_id, z_how])
           clear nb z_name k8 z_id z_how
           go_wp2_with fail
           refine (HNM.out _).mono ?_
           rintro e wn ⟨rfl, rfl⟩
           go_wp2_with fail
           go_meet
           exact ⟨by rw [HE.out], rfl⟩
         ·have g_id : ((x.id : Int) != 0) = true := by rw [bne_iff_ne]; omega
          have HE := hid (show De.p3 x = true by unfold De.p3; rw [nb]; simp [z_name, k8, z_id])
          clear nb z_name k8 z_id
          go_wp2_with fail
          refine (HNM.out _).mono ?_
          rintro e wn ⟨rfl, rfl⟩
          go_wp2_with fail
          go_meet
          exact ⟨by rw [HE.out], rfl⟩
       ·have g_name := emp_no z_name
        have HE := hid (show De.p3 x = true by unfold De.p3; rw [nb]; simp [z_name])
        clear nb z_name
        go_wp2_with fail
        refine (HNM.out _).mono ?_
        rintro e wn ⟨rfl, rfl⟩
        go_wp2_with fail
        go_meet
        exact ⟨by rw [HE.out], rfl⟩
     case rest =>
      obtain ⟨rfl, rfl⟩ := hcut
      cases e_p3 : De.p3 x with
      | true =>
       have HE := hid (show De.spare x = true by rw [HS0.out, e_p3]; simp)
       clear e_p3
       go_wp2_with fail
       go_ret
       exact ⟨ret_bool HE.out.symm, HB2.out⟩
      | false =>
       go_upto_region 8 with fail
       go_cut [84] (fun s84 wx => s84 = .bool (De.p4 x) ∧ wx = wc)
       case first =>
        have c18 := HX2.out.p.cs 18 _ rfl
        have c19 := HX2.out.p.cs 19 _ rfl
        have c20 := HX2.out.p.cs 20 _ rfl
        have c28 := HX2.out.p.cs 28 _ rfl
        have cl := HX2.out.p.lt
        by_cases k10 : x.kd = 10
        ·have f10 : ((x.kd : Int) != 10) = false := by rw [k10]; rfl
         have k12 : ¬ x.kd = 12 := by omega
         have f12 : ((x.kd : Int) != 12) = true := by rw [bne_iff_ne]; omega
         by_cases z_cd : x.cd = 0
         ·have g_cd : ((x.cd : Int) != 0) = false := by rw [z_cd]; rfl
          by_cases z_text : x.text = []
          ·have g_text := emp_yes z_text
           have HE := hid (show De.p4 x = false by unfold De.p4; simp [k10, z_cd, z_text])
           clear k10 k12 z_cd z_text
           go_wp2_with fail
           go_meet
           exact ⟨by rw [HE.out], rfl⟩
          ·have g_text := emp_no z_text
           have HE := hid (show De.p4 x = true by unfold De.p4; simp [k10, z_cd, z_text])
           clear k10 k12 z_cd z_text
           go_wp2_with fail
           go_meet
           exact ⟨by rw [HE.out], rfl⟩
         ·have g_cd : ((x.cd : Int) != 0) = true := by rw [bne_iff_ne]; omega
          have HE := hid (show De.p4 x = true by unfold De.p4; simp [k10, z_cd])
          clear k10 k12 z_cd
          go_wp2_with fail
          go_meet
          exact ⟨by rw [HE.out], rfl⟩
        ·have f10 : ((x.kd : Int) != 10) = true := by rw [bne_iff_ne]; omega
         by_cases z_frm : x.frm = 0
         ·have g_frm : ((x.frm : Int) != 0) = false := by rw [z_frm]; rfl
          by_cases z_num : x.num = 0
          ·have g_num : ((x.num : Int) != 0) = false := by rw [z_num]; rfl
           by_cases k12 : x.kd = 12
           ·have f12 : ((x.kd : Int) != 12) = false := by rw [k12]; rfl
            have HE := hid (show De.p4 x = false by unfold De.p4; simp [z_frm, z_num, k12])
            clear k10 z_frm z_num k12
            go_wp2_with fail
            go_meet
            exact ⟨by rw [HE.out], rfl⟩
           ·have f12 : ((x.kd : Int) != 12) = true := by rw [bne_iff_ne]; omega
            by_cases z_cd : x.cd = 0
            ·have g_cd : ((x.cd : Int) != 0) = false := by rw [z_cd]; rfl
             by_cases z_text : x.text = []
             ·have g_text := emp_yes z_text
              have HE := hid (show De.p4 x = false by unfold De.p4; simp [z_frm, z_num, z_cd, z_text])
              clear k10 z_frm z_num k12 z_cd z_text
              go_wp2_with fail
              go_meet
              exact ⟨by rw [HE.out], rfl⟩
             ·have g_text := emp_no z_text
              have HE := hid (show De.p4 x = true by unfold De.p4; simp [z_frm, z_num, k12, z_cd, z_text])
              clear k10 z_frm z_num k12 z_cd z_text
              go_wp2_with fail
              go_meet
              exact ⟨by rw [HE.out], rfl⟩
            ·have g_cd : ((x.cd : Int) != 0) = true := by rw [bne_iff_ne]; omega
             have HE := hid (show De.p4 x = true by unfold De.p4; simp [z_frm, z_num, k12, z_cd])
             clear k10 z_frm z_num k12 z_cd
             go_wp2_with fail
             go_meet
             exact ⟨by rw [HE.out], rfl⟩
          ·have g_num : ((x.num : Int) != 0) = true := by rw [bne_iff_ne]; omega
           have HE := hid (show De.p4 x = true by unfold De.p4; simp [k10, z_frm, z_num])
           clear k10 z_frm z_num
           go_wp2_with fail
           go_meet
           exact ⟨by rw [HE.out], rfl⟩
         ·have g_frm : ((x.frm : Int) != 0) = true := by rw [bne_iff_ne]; omega
          have HE := hid (show De.p4 x = true by unfold De.p4; simp [k10, z_frm])
          clear k10 z_frm
          go_wp2_with fail
          go_meet
          exact ⟨by rw [HE.out], rfl⟩
       case rest =>
        obtain ⟨rfl, rfl⟩ := hcut
        cases e_p4 : De.p4 x with
        | true =>
         have HE := hid (show De.spare x = true by rw [HS0.out, e_p4]; simp)
         clear e_p4
         go_wp2_with fail
         go_ret
         exact ⟨ret_bool HE.out.symm, HB2.out⟩
        | false =>
         have HSP := hid (show De.spare x = De.p5 x by rw [HS0.out, e_p1, e_p2, e_p3, e_p4]; simp)
         clear e_p1 e_p2 e_p3 e_p4
         go_upto_region 10 with fail
         have c21 := HX2.out.p.cs 21 _ rfl
         have c22 := HX2.out.p.cs 22 _ rfl
         have c23 := HX2.out.p.cs 23 _ rfl
         have c24 := HX2.out.p.cs 24 _ rfl
         have c25 := HX2.out.p.cs 25 _ rfl
         have c26 := HX2.out.p.cs 26 _ rfl
         have c27 := HX2.out.p.cs 27 _ rfl
         have cl := HX2.out.p.lt
         by_cases k6 : x.kd = 6
         ·have f6 : ((x.kd : Int) != 6) = false := by rw [k6]; rfl
          have HE := hid (show De.p5 x = false by unfold De.p5; simp [k6])
          clear k6
          go_wp2_with fail
          go_ret
          exact ⟨ret_bool (by rw [HSP.out, HE.out]), HB2.out⟩
         ·have f6 : ((x.kd : Int) != 6) = true := by rw [bne_iff_ne]; omega
          by_cases k10 : x.kd = 10
          ·have f10 : ((x.kd : Int) != 10) = false := by rw [k10]; rfl
           have HE := hid (show De.p5 x = false by unfold De.p5; simp [k10])
           clear k6 k10
           go_wp2_with fail
           go_ret
           exact ⟨ret_bool (by rw [HSP.out, HE.out]), HB2.out⟩
          ·have f10 : ((x.kd : Int) != 10) = true := by rw [bne_iff_ne]; omega
           by_cases z_mail : x.mail = Ml.zero
           ·rw [decide_eq_true z_mail] at HMC
            have HE := hid (show De.p5 x = false by unfold De.p5; simp [z_mail])
            clear k6 k10 z_mail
            go_wp2_with fail
            refine (HMC.out _ HX2.out.rb (Prs.nil _ _)).mono ?_
            rintro e wm ⟨rfl, bm⟩
            have HBm := hid (bthen HB2.out bm (Nat.le_refl _))
            clear bm
            go_wp2_with fail
            go_ret
            exact ⟨ret_bool (by rw [HSP.out, HE.out]), HBm.out⟩
           ·rw [decide_eq_false z_mail] at HMC
            have HE := hid (show De.p5 x = true by unfold De.p5; simp [k6, k10, z_mail])
            clear k6 k10 z_mail
            go_wp2_with fail
            refine (HMC.out _ HX2.out.rb (Prs.nil _ _)).mono ?_
            rintro e wm ⟨rfl, bm⟩
            have HBm := hid (bthen HB2.out bm (Nat.le_refl _))
            clear bm
            go_wp2_with fail
            go_ret
            exact ⟨ret_bool (by rw [HSP.out, HE.out]), HBm.out⟩
end Go.Proofs.YtaikigponkjkgaaGreatDoor
end
