/-
 A part of the proof.
-/
import Derived.Test.YtaikigponkjkgaaGreatDoorXr27

section
namespace Go.Proofs.YtaikigponkjkgaaGreatDoor
open Go.ChangeShapes Go.WideShapes Go.ChangeAt Go.RowKit
open Go.Lib (hid)
theorem guardRQu : Tryz.prog.eqGuardType Tryz.prog.depth 56 = false := by kernel_rfl
theorem stoodRQu : Tryz.prog.stoodInHeld 56 = false := by kernel_rfl
theorem fieldsRQu : Tryz.prog.fieldsOf 56 = #[⟨"Name", 9, 0, false, "", "", 0⟩, ⟨"Most", 41, 1, false, "", "", 16⟩, ⟨"Life", 41, 2, false, "", "", 24⟩, ⟨"Dead", 9, 3, false, "", "", 32⟩] := by kernel_rfl
theorem rqu_eql (a : ByteArray) (b c : Int) (d : ByteArray) (a' : ByteArray) (b' c' : Int) (d' : ByteArray) (W : World) : (Op.equalIn 10000 56 (.agg #[.string a, .int .u64 b, .int .u64 c, .string d]) (.agg #[.string a', .int .u64 b', .int .u64 c', .string d'])).run Tryz.prog W = .ok ((a.toList == a'.toList) && (b == b') && (c == c') && (d.toList == d'.toList)) W := by
 rw [run_equalIn_agg (ht := by kernel_rfl) (hp := stoodRQu), fieldsRQu]
 simp [Op.eqFields, go_sem, Tryz.underlying41, Tryz.underlying9]
 by_cases h1 : a.toList = a'.toList <;> by_cases h2 : b = b' <;> by_cases h3 : c = c' <;> by_cases h4 : d.toList = d'.toList <;> simp [h1, h2, h3, h4]
theorem rqu_eq (x y : Qu) (W : World) : (Op.equalIn 10000 56 (.agg #[.string (ofL x.name), .int .u64 (x.most : Int), .int .u64 (x.life : Int), .string (ofL x.dead)]) (.agg #[.string (ofL y.name), .int .u64 (y.most : Int), .int .u64 (y.life : Int), .string (ofL y.dead)])).run Tryz.prog W = .ok (decide (x = y)) W := by
 rw [← quEq_dec, show quEq x y = (((ofL x.name).toList == (ofL y.name).toList) && ((x.most : Int) == (y.most : Int)) && ((x.life : Int) == (y.life : Int)) && ((ofL x.dead).toList == (ofL y.dead).toList)) by rw [str_same, str_same, cast_beq, cast_beq]; rfl]
 exact rqu_eql _ _ _ _ _ _ _ _ W
theorem rbind_dec (x y : Bd) (A : Option Addr) (c : Nat) (B : Option Addr) (d : Nat) (w : World) (hl : x.want.length ≤ 100000) (hm : y.want.length ≤ 100000) (hA : Prs w A x.want) (hB : Prs w B y.want) :
  Calls Tryz.prog 65 #[bdV x A c, bdV y B d] w fun e w' => e = .returned (.bool (decide (x = y))) ∧ Below w.heap.size w w' := by
 have h := r14SameBind_any x y A c B d w hl hm hA hB
 rwa [bdEq_dec] at h
theorem rmail_dec (x y : Ml) (A : Option Addr) (c : Nat) (B : Option Addr) (d : Nat) (w : World) (hl : x.head.length ≤ 100000) (hm : y.head.length ≤ 100000) (hA : Prs w A x.head) (hB : Prs w B y.head) :
  Calls Tryz.prog 66 #[maV x A c, maV y B d] w fun e w' => e = .returned (.bool (decide (x = y))) ∧ Below w.heap.size w w' := by
 have h := r13Same_any x y A c B d w hl hm hA hB
 rwa [maEq_decD] at h
attribute [local go_sem] guardRSh guardRQu
set_option maxRecDepth 100000 in
set_option maxHeartbeats 16000000 in
theorem r22Same_any0 (x y : De) (A : Option Addr) (c : Nat) (B : Option Addr) (d : Nat) (C : Option Addr) (e : Nat) (D : Option Addr) (f : Nat) (w : World) (hl : x.bind.want.length ≤ 100000) (hm : y.bind.want.length ≤ 100000) (hn : x.mail.head.length ≤ 100000) (ho : y.mail.head.length ≤ 100000) (hA : Prs w A x.bind.want) (hB : Prs w B x.mail.head) (hC : Prs w C y.bind.want) (hD : Prs w D y.mail.head) :
  Calls Tryz.prog 29 #[deV x A c B d, deV y C e D f] w fun r w' => r = .returned (.bool (deEqR x y)) ∧ Below w.heap.size w w' := by
 have HB0 := hid (rtTwo w (.cells #[.int .u8 (x.kd : Int), .int .u64 (x.tick : Int), .string (ofL x.shop.name), .int .u8 (x.shop.sort : Int), .string (ofL x.shop.to), .string (ofL x.q.name), .int .u64 (x.q.most : Int), .int .u64 (x.q.life : Int), .string (ofL x.q.dead), .string (ofL x.bind.shop), .string (ofL x.bind.to), .bool x.bind.up, .string (ofL x.bind.key), .slice A x.bind.want.length c, .bool x.bind.all, .string (ofL x.name), .int .u64 (x.id : Int), .int .u8 (x.how : Int), .int .u8 (x.frm : Int), .int .u8 (x.cd : Int), .int .u64 (x.num : Int), .int .u64 (x.mail.id : Int), .string (ofL x.mail.shop), .string (ofL x.mail.key), .slice B x.mail.head.length d, .string (ofL x.mail.body), .int .u64 (x.mail.due : Int), .int .u8 (x.mail.hops : Int), .string (ofL x.text)] 59) (.cells #[.int .u8 (y.kd : Int), .int .u64 (y.tick : Int), .string (ofL y.shop.name), .int .u8 (y.shop.sort : Int), .string (ofL y.shop.to), .string (ofL y.q.name), .int .u64 (y.q.most : Int), .int .u64 (y.q.life : Int), .string (ofL y.q.dead), .string (ofL y.bind.shop), .string (ofL y.bind.to), .bool y.bind.up, .string (ofL y.bind.key), .slice C y.bind.want.length e, .bool y.bind.all, .string (ofL y.name), .int .u64 (y.id : Int), .int .u8 (y.how : Int), .int .u8 (y.frm : Int), .int .u8 (y.cd : Int), .int .u64 (y.num : Int), .int .u64 (y.mail.id : Int), .string (ofL y.mail.shop), .string (ofL y.mail.key), .slice D y.mail.head.length f, .string (ofL y.mail.body), .int .u64 (y.mail.due : Int), .int .u8 (y.mail.hops : Int), .string (ofL y.text)] 59))
 have HXP := hid ((DeX.start w x A c B d hA hB 59).on (rtOne _ (.cells #[.int .u8 (y.kd : Int), .int .u64 (y.tick : Int), .string (ofL y.shop.name), .int .u8 (y.shop.sort : Int), .string (ofL y.shop.to), .string (ofL y.q.name), .int .u64 (y.q.most : Int), .int .u64 (y.q.life : Int), .string (ofL y.q.dead), .string (ofL y.bind.shop), .string (ofL y.bind.to), .bool y.bind.up, .string (ofL y.bind.key), .slice C y.bind.want.length e, .bool y.bind.all, .string (ofL y.name), .int .u64 (y.id : Int), .int .u8 (y.how : Int), .int .u8 (y.frm : Int), .int .u8 (y.cd : Int), .int .u64 (y.num : Int), .int .u64 (y.mail.id : Int), .string (ofL y.mail.shop), .string (ofL y.mail.key), .slice D y.mail.head.length f, .string (ofL y.mail.body), .int .u64 (y.mail.due : Int), .int .u8 (y.mail.hops : Int), .string (ofL y.text)] 59)))
 have HYP := hid (DeX.next (w := w) (.cells #[.int .u8 (x.kd : Int), .int .u64 (x.tick : Int), .string (ofL x.shop.name), .int .u8 (x.shop.sort : Int), .string (ofL x.shop.to), .string (ofL x.q.name), .int .u64 (x.q.most : Int), .int .u64 (x.q.life : Int), .string (ofL x.q.dead), .string (ofL x.bind.shop), .string (ofL x.bind.to), .bool x.bind.up, .string (ofL x.bind.key), .slice A x.bind.want.length c, .bool x.bind.all, .string (ofL x.name), .int .u64 (x.id : Int), .int .u8 (x.how : Int), .int .u8 (x.frm : Int), .int .u8 (x.cd : Int), .int .u64 (x.num : Int), .int .u64 (x.mail.id : Int), .string (ofL x.mail.shop), .string (ofL x.mail.key), .slice B x.mail.head.length d, .string (ofL x.mail.body), .int .u64 (x.mail.due : Int), .int .u8 (x.mail.hops : Int), .string (ofL x.text)] 59) y C e D f hC hD 59)
 have HBC := hid (fun W h1 h2 => rbind_dec x.bind y.bind A c C e W hl hm h1 h2)
 have HMC := hid (fun W h1 h2 => rmail_dec x.mail y.mail B d D f W hn ho h1 h2)
 skip
 have HX : Hid (deEqR x y = ((x.kd == y.kd) && ((x.tick == y.tick) && (decide (x.shop = y.shop) && (decide (x.q = y.q) && ((x.name == y.name) && ((x.id == y.id) && ((x.how == y.how) && ((x.frm == y.frm) && ((x.cd == y.cd) && ((x.num == y.num) && ((x.text == y.text) && (decide (x.bind = y.bind) && (decide (x.mail = y.mail))))))))))))))) := rfl
 have HQS := fun W => rsh_eq x.shop y.shop W
 have HQQ := fun W => rqu_eq x.q y.q W
 clear hA hB hC hD
 generalize deEqR x y = SB at *
 generalize decide (x.bind = y.bind) = M at *
 generalize decide (x.mail = y.mail) = M2 at *
 generalize decide (x.shop = y.shop) = M3 at *
 generalize decide (x.q = y.q) = M4 at *
 simp only [deV, bdV, maV] at *
 have h0 := cast_beq x.kd y.kd
 cases e0 : (x.kd == y.kd) with
 | false =>
  rw [e0] at h0
  have n0 : ((x.kd : Int) != (y.kd : Int)) = true := by rw [bne, h0]; rfl
  go_enter Tryz.func29, Tryz.ntmps29
  go_wp2_with fail
  go_ret
  exact ⟨ret_bool (by rw [HX.out, e0]; simp), HB0.out⟩
 | true =>
  rw [e0] at h0
  have n0 : ((x.kd : Int) != (y.kd : Int)) = false := by rw [bne, h0]; rfl
  have h1 := cast_beq x.tick y.tick
  cases e1 : (x.tick == y.tick) with
  | false =>
   rw [e1] at h1
   have n1 : ((x.tick : Int) != (y.tick : Int)) = true := by rw [bne, h1]; rfl
   go_enter Tryz.func29, Tryz.ntmps29
   go_wp2_with fail
   go_ret
   exact ⟨ret_bool (by rw [HX.out, e0, e1]; simp), HB0.out⟩
  | true =>
   rw [e1] at h1
   have n1 : ((x.tick : Int) != (y.tick : Int)) = false := by rw [bne, h1]; rfl
   cases e2 : M3 with
   | false =>
    rw [e2] at HQS
    go_enter Tryz.func29, Tryz.ntmps29
    go_wp2_with fail
    go_ret
    exact ⟨ret_bool (by rw [HX.out, e0, e1, e2]; simp), HB0.out⟩
   | true =>
    rw [e2] at HQS
    cases e3 : M4 with
    | false =>
     rw [e3] at HQQ
     go_enter Tryz.func29, Tryz.ntmps29
     go_wp2_with fail
     go_ret
     exact ⟨ret_bool (by rw [HX.out, e0, e1, e2, e3]; simp), HB0.out⟩
    | true =>
     rw [e3] at HQQ
     have h4 := str_same x.name y.name
     cases e4 : (x.name == y.name) with
     | false =>
      rw [e4] at h4
      have n4 : ((ofL x.name).toList != (ofL y.name).toList) = true := by rw [bne, h4]; rfl
      go_enter Tryz.func29, Tryz.ntmps29
      go_wp2_with fail
      go_ret
      exact ⟨ret_bool (by rw [HX.out, e0, e1, e2, e3, e4]; simp), HB0.out⟩
     | true =>
      rw [e4] at h4
      have n4 : ((ofL x.name).toList != (ofL y.name).toList) = false := by rw [bne, h4]; rfl
      have h5 := cast_beq x.id y.id
      cases e5 : (x.id == y.id) with
      | false =>
       rw [e5] at h5
       have n5 : ((x.id : Int) != (y.id : Int)) = true := by rw [bne, h5]; rfl
       go_enter Tryz.func29, Tryz.ntmps29
       go_wp2_with fail
       go_ret
       exact ⟨ret_bool (by rw [HX.out, e0, e1, e2, e3, e4, e5]; simp), HB0.out⟩
      | true =>
       rw [e5] at h5
       have n5 : ((x.id : Int) != (y.id : Int)) = false := by rw [bne, h5]; rfl
       have h6 := cast_beq x.how y.how
       cases e6 : (x.how == y.how) with
       | false =>
        rw [e6] at h6
        have n6 : ((x.how : Int) != (y.how : Int)) = true := by rw [bne, h6]; rfl
        go_enter Tryz.func29, Tryz.ntmps29
        go_wp2_with fail
        go_ret
        exact ⟨ret_bool (by rw [HX.out, e0, e1, e2, e3, e4, e5, e6]; simp), HB0.out⟩
       | true =>
        rw [e6] at h6
        have n6 : ((x.how : Int) != (y.how : Int)) = false := by rw [bne, h6]; rfl
        have h7 := cast_beq x.frm y.frm
        cases e7 : (x.frm == y.frm) with
        | false =>
         rw [e7] at h7
         have n7 : ((x.frm : Int) != (y.frm : Int)) = true := by rw [bne, h7]; rfl
         go_enter Tryz.func29, Tryz.ntmps29
         go_wp2_with fail
         go_ret
         exact ⟨ret_bool (by rw [HX.out, e0, e1, e2, e3, e4, e5, e6, e7]; simp), HB0.out⟩
        | true =>
         rw [e7] at h7
         have n7 : ((x.frm : Int) != (y.frm : Int)) = false := by rw [bne, h7]; rfl
         have h8 := cast_beq x.cd y.cd
         cases e8 : (x.cd == y.cd) with
         | false =>
          rw [e8] at h8
          have n8 : ((x.cd : Int) != (y.cd : Int)) = true := by rw [bne, h8]; rfl
          go_enter Tryz.func29, Tryz.ntmps29
          go_wp2_with fail
          go_ret
          exact ⟨ret_bool (by rw [HX.out, e0, e1, e2, e3, e4, e5, e6, e7, e8]; simp), HB0.out⟩
         | true =>
          rw [e8] at h8
          have n8 : ((x.cd : Int) != (y.cd : Int)) = false := by rw [bne, h8]; rfl
          have h9 := cast_beq x.num y.num
          cases e9 : (x.num == y.num) with
          | false =>
           rw [e9] at h9
           have n9 : ((x.num : Int) != (y.num : Int)) = true := by rw [bne, h9]; rfl
           go_enter Tryz.func29, Tryz.ntmps29
           go_wp2_with fail
           go_ret
           exact ⟨ret_bool (by rw [HX.out, e0, e1, e2, e3, e4, e5, e6, e7, e8, e9]; simp), HB0.out⟩
          | true =>
           rw [e9] at h9
           have n9 : ((x.num : Int) != (y.num : Int)) = false := by rw [bne, h9]; rfl
           have h10 := str_same x.text y.text
           cases e10 : (x.text == y.text) with
           | false =>
            rw [e10] at h10
            have n10 : ((ofL x.text).toList != (ofL y.text).toList) = true := by rw [bne, h10]; rfl
            go_enter Tryz.func29, Tryz.ntmps29
            go_wp2_with fail
            go_ret
            exact ⟨ret_bool (by rw [HX.out, e0, e1, e2, e3, e4, e5, e6, e7, e8, e9, e10]; simp), HB0.out⟩
           | true =>
            rw [e10] at h10
            have n10 : ((ofL x.text).toList != (ofL y.text).toList) = false := by rw [bne, h10]; rfl
            cases e11 : M with
            | false =>
             rw [e11] at HBC
             go_enter Tryz.func29, Tryz.ntmps29
             go_wp2_with fail
             refine (HBC.out _ HXP.out.ra HYP.out.ra).mono ?_
             rintro r w1 ⟨rfl, b1⟩
             have HB1 := hid (bthen HB0.out b1 (Nat.le_refl _))
             have HXP1 := hid (HXP.out.on b1)
             have HYP1 := hid (HYP.out.on b1)
             have lp := HXP1.out.p.lt
             have lq := HYP1.out.p.lt
             have c21 := HXP1.out.p.cs 21 _ rfl
             have d21 := HYP1.out.p.cs 21 _ rfl
             have c22 := HXP1.out.p.cs 22 _ rfl
             have d22 := HYP1.out.p.cs 22 _ rfl
             have c23 := HXP1.out.p.cs 23 _ rfl
             have d23 := HYP1.out.p.cs 23 _ rfl
             have c24 := HXP1.out.p.cs 24 _ rfl
             have d24 := HYP1.out.p.cs 24 _ rfl
             have c25 := HXP1.out.p.cs 25 _ rfl
             have d25 := HYP1.out.p.cs 25 _ rfl
             have c26 := HXP1.out.p.cs 26 _ rfl
             have d26 := HYP1.out.p.cs 26 _ rfl
             have c27 := HXP1.out.p.cs 27 _ rfl
             have d27 := HYP1.out.p.cs 27 _ rfl
             clear b1
             go_wp2_with fail
             go_ret
             exact ⟨ret_bool (by rw [HX.out, e0, e1, e2, e3, e4, e5, e6, e7, e8, e9, e10, e11]; simp), HB1.out⟩
            | true =>
             rw [e11] at HBC
             go_enter Tryz.func29, Tryz.ntmps29
             go_wp2_with fail
             refine (HBC.out _ HXP.out.ra HYP.out.ra).mono ?_
             rintro r w1 ⟨rfl, b1⟩
             have HB1 := hid (bthen HB0.out b1 (Nat.le_refl _))
             have HXP1 := hid (HXP.out.on b1)
             have HYP1 := hid (HYP.out.on b1)
             have lp := HXP1.out.p.lt
             have lq := HYP1.out.p.lt
             have c21 := HXP1.out.p.cs 21 _ rfl
             have d21 := HYP1.out.p.cs 21 _ rfl
             have c22 := HXP1.out.p.cs 22 _ rfl
             have d22 := HYP1.out.p.cs 22 _ rfl
             have c23 := HXP1.out.p.cs 23 _ rfl
             have d23 := HYP1.out.p.cs 23 _ rfl
             have c24 := HXP1.out.p.cs 24 _ rfl
             have d24 := HYP1.out.p.cs 24 _ rfl
             have c25 := HXP1.out.p.cs 25 _ rfl
             have d25 := HYP1.out.p.cs 25 _ rfl
             have c26 := HXP1.out.p.cs 26 _ rfl
             have d26 := HYP1.out.p.cs 26 _ rfl
             have c27 := HXP1.out.p.cs 27 _ rfl
             have d27 := HYP1.out.p.cs 27 _ rfl
             clear b1
             go_wp2_with fail
             refine (HMC.out _ HXP1.out.rb HYP1.out.rb).mono ?_
             rintro r w2 ⟨rfl, b2⟩
             have HB2 := hid (bthen HB1.out b2 (Nat.le_refl _))
             have HXP2 := hid (HXP1.out.on b2)
             have HYP2 := hid (HYP1.out.on b2)
             clear lp lq c21 d21 c22 d22 c23 d23 c24 d24 c25 d25 c26 d26 c27 d27
             clear b2
             go_wp2_with fail
             go_ret
             exact ⟨ret_bool (by rw [HX.out, e0, e1, e2, e3, e4, e5, e6, e7, e8, e9, e10, e11]; simp), HB2.out⟩
theorem r22Same_any (x y : De) (A : Option Addr) (c : Nat) (B : Option Addr) (d : Nat) (C : Option Addr) (e : Nat) (D : Option Addr) (f : Nat) (w : World) (hl : x.bind.want.length ≤ 100000) (hm : y.bind.want.length ≤ 100000) (hn : x.mail.head.length ≤ 100000) (ho : y.mail.head.length ≤ 100000) (hA : Prs w A x.bind.want) (hB : Prs w B x.mail.head) (hC : Prs w C y.bind.want) (hD : Prs w D y.mail.head) :
  Calls Tryz.prog 29 #[deV x A c B d, deV y C e D f] w fun r w' => r = .returned (.bool (decide (x = y))) ∧ Below w.heap.size w w' := by
 have h := r22Same_any0 x y A c B d C e D f w hl hm hn ho hA hB hC hD
 rwa [deEqR_dec] at h
end Go.Proofs.YtaikigponkjkgaaGreatDoor
end
