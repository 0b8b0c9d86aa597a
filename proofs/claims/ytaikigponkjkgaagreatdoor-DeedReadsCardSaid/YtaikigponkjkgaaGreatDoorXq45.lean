/-
 A part of the proof.
-/
import Derived.Test.YtaikigponkjkgaaGreatDoorXq42
import Derived.Deep.RegionHeld3
import Derived.Deep.DeepCutAuto
section
namespace Go.Proofs.YtaikigponkjkgaaGreatDoor
open Go.ChangeShapes Go.WideShapes Go.ChangeAt Go.RowKit
open Go.Lib (hid)
set_option maxRecDepth 100000
theorem qxq45a (l : List Value) (i : Nat) (v : Value) : l.toArray.setIfInBounds i v = (l.set i v).toArray := by simp
theorem qxq45b (v u : Value) (l : List Value) : (v :: l).set 0 u = u :: l := rfl
theorem qxq45c (v u : Value) (n : Nat) (l : List Value) : (v :: l).set (n + 1) u = v :: l.set n u := rfl
theorem guardRQu : Tryz.prog.eqGuardType Tryz.prog.depth 56 = false := by kernel_rfl
theorem stoodRQu : Tryz.prog.stoodInHeld 56 = false := by kernel_rfl
theorem fieldsRQu : Tryz.prog.fieldsOf 56 = #[⟨"Name", 9, 0, false, "", "", 0⟩, ⟨"Most", 41, 1, false, "", "", 16⟩, ⟨"Life", 41, 2, false, "", "", 24⟩, ⟨"Dead", 9, 3, false, "", "", 32⟩] := by kernel_rfl
theorem rqu_eql (a : ByteArray) (b c : Int) (d : ByteArray) (a' : ByteArray) (b' c' : Int) (d' : ByteArray) (W : World) : (Op.equalIn 10000 56 (.agg #[.string a, .int .u64 b, .int .u64 c, .string d]) (.agg #[.string a', .int .u64 b', .int .u64 c', .string d'])).run Tryz.prog W = .ok ((a.toList == a'.toList) && (b == b') && (c == c') && (d.toList == d'.toList)) W := by
 rw [run_equalIn_agg (ht := by kernel_rfl) (hp := stoodRQu), fieldsRQu]
 simp [Op.eqFields, go_sem, Tryz.underlying41, Tryz.underlying9]
 by_cases h1 : a.toList = a'.toList <;> by_cases h2 : b = b' <;> by_cases h3 : c = c' <;> by_cases h4 : d.toList = d'.toList <;> simp [h1, h2, h3, h4]
theorem rqu_eq (x y : Qu) (W : World) : (Op.equalIn 10000 56 (.agg #[.string (ofL x.name), .int .u64 (x.most : Int), .int .u64 (x.life : Int), .string (ofL x.dead)]) (.agg #[.string (ofL y.name), .int .u64 (y.most : Int), .int .u64 (y.life : Int), .string (ofL y.dead)])).run Tryz.prog W = .ok (decide (x = y)) W := by
 rw [← quEq_dec, show quEq x y = (((ofL x.name).toList == (ofL y.name).toList) && ((x.most : Int) == (y.most : Int)) && ((x.life : Int) == (y.life : Int)) && ((ofL x.dead).toList == (ofL y.dead).toList)) by rw [str_same, str_same, cast_beq, cast_beq]; rfl]
 exact rqu_eql _ _ _ _ _ _ _ _ W
theorem rbind_dec (x y : Bd) (A : Option Addr) (c : Nat) (B : Option Addr) (d : Nat) (w : World) (hl : x.want.length ≤ 100000) (hm : y.want.length ≤ 100000) (hA : Prs w A x.want) (hB : Prs w B y.want) :
  Calls Tryz.prog 65 #[bdV x A c, bdV y B d] w fun e w' => e = .returned (.bool (decide (x = y))) ∧ Below w.heap.size w w' := by
 have h := r14SameBind_any x y A c B d w hl hm hA hB
 rwa [bdEq_dec] at h
theorem rmail_dec (x y : Ml) (A : Option Addr) (c : Nat) (B : Option Addr) (d : Nat) (w : World) (hl : x.head.length ≤ 100000) (hm : y.head.length ≤ 100000) (hA : Prs w A x.head) (hB : Prs w B y.head) :
  Calls Tryz.prog 66 #[maV x A c, maV y B d] w fun e w' => e = .returned (.bool (decide (x = y))) ∧ Below w.heap.size w w' := by
 have h := r13Same_any x y A c B d w hl hm hA hB
 rwa [maEq_decD] at h
attribute [local go_sem] guardRSh guardRQu
set_option maxHeartbeats 16000000 in
theorem r22Same_any0 (x y : De) (A : Option Addr) (c : Nat) (B : Option Addr) (d : Nat) (C : Option Addr) (e : Nat) (D : Option Addr) (f : Nat) (w : World) (hl : x.bind.want.length ≤ 100000) (hm : y.bind.want.length ≤ 100000) (hn : x.mail.head.length ≤ 100000) (ho : y.mail.head.length ≤ 100000) (hA : Prs w A x.bind.want) (hB : Prs w B x.mail.head) (hC : Prs w C y.bind.want) (hD : Prs w D y.mail.head) :
  Calls Tryz.prog 29 #[deV x A c B d, deV y C e D f] w fun r w' => r = .returned (.bool (deEqR x y)) ∧ Below w.heap.size w w' := by
 have HB0 := hid (rtTwo w (.cells #[.int .u8 (x.kd : Int), .int .u64 (x.tick : Int), .string (ofL x.shop.name), .int .u8 (x.shop.sort : Int), .string (ofL x.shop.to), .string (ofL x.q.name), .int .u64 (x.q.most : Int), .int .u64 (x.q.life : Int), .string (ofL x.q.dead), .string (ofL x.bind.shop), .string (ofL x.bind.to), .bool x.bind.up, .string (ofL x.bind.key), .slice A x.bind.want.length c, .bool x.bind.all, .string (ofL x.name), .int .u64 (x.id : Int), .int .u8 (x.how : Int), .int .u8 (x.frm : Int), .int .u8 (x.cd : Int), .int .u64 (x.num : Int), .int .u64 (x.mail.id : Int), .string (ofL x.mail.shop), .string (ofL x.mail.key), .slice B x.mail.head.length d, .string (ofL x.mail.body), .int .u64 (x.mail.due : Int), .int .u8 (x.mail.hops : Int), .string (ofL x.text)] 59) (.cells #[.int .u8 (y.kd : Int), .int .u64 (y.tick : Int), .string (ofL y.shop.name), .int .u8 (y.shop.sort : Int), .string (ofL y.shop.to), .string (ofL y.q.name), .int .u64 (y.q.most : Int), .int .u64 (y.q.life : Int), .string (ofL y.q.dead), .string (ofL y.bind.shop), .string (ofL y.bind.to), .bool y.bind.up, .string (ofL y.bind.key), .slice C y.bind.want.length e, .bool y.bind.all, .string (ofL y.name), .int .u64 (y.id : Int), .int .u8 (y.how : Int), .int .u8 (y.frm : Int), .int .u8 (y.cd : Int), .int .u64 (y.num : Int), .int .u64 (y.mail.id : Int), .string (ofL y.mail.shop), .string (ofL y.mail.key), .slice D y.mail.head.length f, .string (ofL y.mail.body), .int .u64 (y.mail.due : Int), .int .u8 (y.mail.hops : Int), .string (ofL y.text)] 59))
 have HXP := hid ((DeX.start w x A c B d hA hB 59).on (rtOne _ (.cells #[.int .u8 (y.kd : Int), .int .u64 (y.tick : Int), .string (ofL y.shop.name), .int .u8 (y.shop.sort : Int), .string (ofL y.shop.to), .string (ofL y.q.name), .int .u64 (y.q.most : Int), .int .u64 (y.q.life : Int), .string (ofL y.q.dead), .string (ofL y.bind.shop), .string (ofL y.bind.to), .bool y.bind.up, .string (ofL y.bind.key), .slice C y.bind.want.length e, .bool y.bind.all, .string (ofL y.name), .int .u64 (y.id : Int), .int .u8 (y.how : Int), .int .u8 (y.frm : Int), .int .u8 (y.cd : Int), .int .u64 (y.num : Int), .int .u64 (y.mail.id : Int), .string (ofL y.mail.shop), .string (ofL y.mail.key), .slice D y.mail.head.length f, .string (ofL y.mail.body), .int .u64 (y.mail.due : Int), .int .u8 (y.mail.hops : Int), .string (ofL y.text)] 59)))
 have HYP := hid (DeX.next (w := w) (.cells #[.int .u8 (x.kd : Int), .int .u64 (x.tick : Int), .string (ofL x.shop.name), .int .u8 (x.shop.sort : Int), .string (ofL x.shop.to), .string (ofL x.q.name), .int .u64 (x.q.most : Int), .int .u64 (x.q.life : Int), .string (ofL x.q.dead), .string (ofL x.bind.shop), .string (ofL x.bind.to), .bool x.bind.up, .string (ofL x.bind.key), .slice A x.bind.want.length c, .bool x.bind.all, .string (ofL x.name), .int .u64 (x.id : Int), .int .u8 (x.how : Int), .int .u8 (x.frm : Int), .int .u8 (x.cd : Int), .int .u64 (x.num : Int), .int .u64 (x.mail.id : Int), .string (ofL x.mail.shop), .string (ofL x.mail.key), .slice B x.mail.head.length d, .string (ofL x.mail.body), .int .u64 (x.mail.due : Int), .int .u8 (x.mail.hops : Int), .string (ofL x.text)] 59) y C e D f hC hD 59)
 have HBC := hid (fun W h1 h2 => rbind_dec x.bind y.bind A c C e W hl hm h1 h2)
 have HMC := hid (fun W h1 h2 => rmail_dec x.mail y.mail B d D f W hn ho h1 h2)
 skip
 have HX : Hid (deEqR x y = ((x.kd == y.kd) && ((x.tick == y.tick) && (decide (x.shop = y.shop) && (decide (x.q = y.q) && ((x.name == y.name) && ((x.id == y.id) && ((x.how == y.how) && ((x.frm == y.frm) && ((x.cd == y.cd) && ((x.num == y.num) && ((x.text == y.text) && (decide (x.bind = y.bind) && (decide (x.mail = y.mail))))))))))))))) := rfl
 have HQS := fun W => rsh_eq x.shop y.shop W
 have HQQ := fun W => rqu_eq x.q y.q W
 clear hA hB hC hD
 generalize deEqR x y = SB at *
 generalize decide (x.bind = y.bind) = M at *
 generalize decide (x.mail = y.mail) = M2 at *
 generalize decide (x.shop = y.shop) = M3 at *
 generalize decide (x.q = y.q) = M4 at *
 simp only [deV, bdV, maV] at *
 have h0 := cast_beq x.kd y.kd
 cases e0 : (x.kd == y.kd) with
 | false =>
  rw [e0] at h0
  have n0 : ((x.kd : Int) != (y.kd : Int)) = true := by rw [bne, h0]; rfl
  go_enter Tryz.func29, Tryz.ntmps29
  go_wp2_with fail
  go_ret
  exact ⟨ret_bool (by rw [HX.out, e0]; simp), HB0.out⟩
 | true =>
  rw [e0] at h0
  have n0 : ((x.kd : Int) != (y.kd : Int)) = false := by rw [bne, h0]; rfl
  have h1 := cast_beq x.tick y.tick
  cases e1 : (x.tick == y.tick) with
  | false =>
   rw [e1] at h1
   have n1 : ((x.tick : Int) != (y.tick : Int)) = true := by rw [bne, h1]; rfl
   go_enter Tryz.func29, Tryz.ntmps29
   go_wp2_with fail
   go_ret
   exact ⟨ret_bool (by rw [HX.out, e0, e1]; simp), HB0.out⟩
  | true =>
   rw [e1] at h1
   have n1 : ((x.tick : Int) != (y.tick : Int)) = false := by rw [bne, h1]; rfl
   cases e2 : M3 with
   | false =>
    rw [e2] at HQS
    go_enter Tryz.func29, Tryz.ntmps29
    go_wp2_with fail
    go_ret
    exact ⟨ret_bool (by rw [HX.out, e0, e1, e2]; simp), HB0.out⟩
   | true =>
    rw [e2] at HQS
    cases e3 : M4 with
    | false =>
     rw [e3] at HQQ
     go_enter Tryz.func29, Tryz.ntmps29
     go_wp2_with fail
     go_ret
     exact ⟨ret_bool (by rw [HX.out, e0, e1, e2, e3]; simp), HB0.out⟩
    | true =>
     rw [e3] at HQQ
     have h4 := str_same x.name y.name
     cases e4 : (x.name == y.name) with
     | false =>
      rw [e4] at h4
      have n4 : ((ofL x.name).toList != (ofL y.name).toList) = true := by rw [bne, h4]; rfl
      go_enter Tryz.func29, Tryz.ntmps29
      go_wp2_with fail
      go_ret
      exact ⟨ret_bool (by rw [HX.out, e0, e1, e2, e3, e4]; simp), HB0.out⟩
     | true =>
      rw [e4] at h4
      have n4 : ((ofL x.name).toList != (ofL y.name).toList) = false := by rw [bne, h4]; rfl
      have h5 := cast_beq x.id y.id
      cases e5 : (x.id == y.id) with
      | false =>
       rw [e5] at h5
       have n5 : ((x.id : Int) != (y.id : Int)) = true := by rw [bne, h5]; rfl
       go_enter Tryz.func29, Tryz.ntmps29
       go_wp2_with fail
       go_ret
       exact ⟨ret_bool (by rw [HX.out, e0, e1, e2, e3, e4, e5]; simp), HB0.out⟩
      | true =>
       rw [e5] at h5
       have n5 : ((x.id : Int) != (y.id : Int)) = false := by rw [bne, h5]; rfl
       have h6 := cast_beq x.how y.how
       cases e6 : (x.how == y.how) with
       | false =>
        rw [e6] at h6
        have n6 : ((x.how : Int) != (y.how : Int)) = true := by rw [bne, h6]; rfl
        go_enter Tryz.func29, Tryz.ntmps29
        go_wp2_with fail
        go_ret
        exact ⟨ret_bool (by rw [HX.out, e0, e1, e2, e3, e4, e5, e6]; simp), HB0.out⟩
       | true =>
        rw [e6] at h6
        have n6 : ((x.how : Int) != (y.how : Int)) = false := by rw [bne, h6]; rfl
        have h7 := cast_beq x.frm y.frm
        cases e7 : (x.frm == y.frm) with
        | false =>
         rw [e7] at h7
         have n7 : ((x.frm : Int) != (y.frm : Int)) = true := by rw [bne, h7]; rfl
         go_enter Tryz.func29, Tryz.ntmps29
         go_wp2_with fail
         go_ret
         exact ⟨ret_bool (by rw [HX.out, e0, e1, e2, e3, e4, e5, e6, e7]; simp), HB0.out⟩
        | true =>
         rw [e7] at h7
         have n7 : ((x.frm : Int) != (y.frm : Int)) = false := by rw [bne, h7]; rfl
         have h8 := cast_beq x.cd y.cd
         cases e8 : (x.cd == y.cd) with
         | false =>
          rw [e8] at h8
          have n8 : ((x.cd : Int) != (y.cd : Int)) = true := by rw [bne, h8]; rfl
          go_enter Tryz.func29, Tryz.ntmps29
          go_wp2_with fail
          go_ret
          exact ⟨ret_bool (by rw [HX.out, e0, e1, e2, e3, e4, e5, e6, e7, e8]; simp), HB0.out⟩
         | true =>
          rw [e8] at h8
          have n8 : ((x.cd : Int) != (y.cd : Int)) = false := by rw [bne, h8]; rfl
          have h9 := cast_beq x.num y.num
          cases e9 : (x.num == y.num) with
          | false =>
           rw [e9] at h9
           have n9 : ((x.num : Int) != (y.num : Int)) = true := by rw [bne, h9]; rfl
           go_enter Tryz.func29, Tryz.ntmps29
           go_wp2_with fail
           go_ret
           exact ⟨ret_bool (by rw [HX.out, e0, e1, e2, e3, e4, e5, e6, e7, e8, e9]; simp), HB0.out⟩
          | true =>
           rw [e9] at h9
           have n9 : ((x.num : Int) != (y.num : Int)) = false := by rw [bne, h9]; rfl
           have h10 := str_same x.text y.text
           cases e10 : (x.text == y.text) with
           | false =>
            rw [e10] at h10
            have n10 : ((ofL x.text).toList != (ofL y.text).toList) = true := by rw [bne, h10]; rfl
            go_enter Tryz.func29, Tryz.ntmps29
            go_wp2_with fail
            go_ret
            exact ⟨ret_bool (by rw [HX.out, e0, e1, e2, e3, e4, e5, e6, e7, e8, e9, e10]; simp), HB0.out⟩
           | true =>
            rw [e10] at h10
            have n10 : ((ofL x.text).toList != (ofL y.text).toList) = false := by rw [bne, h10]; rfl
            cases e11 : M with
            | false =>
             rw [e11] at HBC
             go_enter Tryz.func29, Tryz.ntmps29
             go_wp2_with fail
             refine (HBC.out _ HXP.out.ra HYP.out.ra).mono ?_
             rintro r w1 ⟨rfl, b1⟩
             have HB1 := hid (bthen HB0.out b1 (Nat.le_refl _))
             have HXP1 := hid (HXP.out.on b1)
             have HYP1 := hid (HYP.out.on b1)
             have lp := HXP1.out.p.lt
             have lq := HYP1.out.p.lt
             have c21 := HXP1.out.p.cs 21 _ rfl
             have d21 := HYP1.out.p.cs 21 _ rfl
             have c22 := HXP1.out.p.cs 22 _ rfl
             have d22 := HYP1.out.p.cs 22 _ rfl
             have c23 := HXP1.out.p.cs 23 _ rfl
             have d23 := HYP1.out.p.cs 23 _ rfl
             have c24 := HXP1.out.p.cs 24 _ rfl
             have d24 := HYP1.out.p.cs 24 _ rfl
             have c25 := HXP1.out.p.cs 25 _ rfl
             have d25 := HYP1.out.p.cs 25 _ rfl
             have c26 := HXP1.out.p.cs 26 _ rfl
             have d26 := HYP1.out.p.cs 26 _ rfl
             have c27 := HXP1.out.p.cs 27 _ rfl
             have d27 := HYP1.out.p.cs 27 _ rfl
             clear b1
             go_wp2_with fail
             go_ret
             exact ⟨ret_bool (by rw [HX.out, e0, e1, e2, e3, e4, e5, e6, e7, e8, e9, e10, e11]; simp), HB1.out⟩
            | true =>
             rw [e11] at HBC
             go_enter Tryz.func29, Tryz.ntmps29
             go_wp2_with fail
             refine (HBC.out _ HXP.out.ra HYP.out.ra).mono ?_
             rintro r w1 ⟨rfl, b1⟩
             have HB1 := hid (bthen HB0.out b1 (Nat.le_refl _))
             have HXP1 := hid (HXP.out.on b1)
             have HYP1 := hid (HYP.out.on b1)
             have lp := HXP1.out.p.lt
             have lq := HYP1.out.p.lt
             have c21 := HXP1.out.p.cs 21 _ rfl
             have d21 := HYP1.out.p.cs 21 _ rfl
             have c22 := HXP1.out.p.cs 22 _ rfl
             have d22 := HYP1.out.p.cs 22 _ rfl
             have c23 := HXP1.out.p.cs 23 _ rfl
             have d23 := HYP1.out.p.cs 23 _ rfl
             have c24 := HXP1.out.p.cs 24 _ rfl
             have d24 := HYP1.out.p.cs 24 _ rfl
             have c25 := HXP1.out.p.cs 25 _ rfl
             have d25 := HYP1.out.p.cs 25 _ rfl
             have c26 := HXP1.out.p.cs 26 _ rfl
             have d26 := HYP1.out.p.cs 26 _ rfl
             have c27 := HXP1.out.p.cs 27 _ rfl
             have d27 := HYP1.out.p.cs 27 _ rfl
             clear b1
             go_wp2_with fail
             refine (HMC.out _ HXP1.out.rb HYP1.out.rb).mono ?_
             rintro r w2 ⟨rfl, b2⟩
             have HB2 := hid (bthen HB1.out b2 (Nat.le_refl _))
             have HXP2 := hid (HXP1.out.on b2)
             have HYP2 := hid (HYP1.out.on b2)
             clear lp lq c21 d21 c22 d22 c23 d23 c24 d24 c25 d25 c26 d26 c27 d27
             clear b2
             go_wp2_with fail
             go_ret
             exact ⟨ret_bool (by rw [HX.out, e0, e1, e2, e3, e4, e5, e6, e7, e8, e9, e10, e11]; simp), HB2.out⟩
theorem r22Same_any (x y : De) (A : Option Addr) (c : Nat) (B : Option Addr) (d : Nat) (C : Option Addr) (e : Nat) (D : Option Addr) (f : Nat) (w : World) (hl : x.bind.want.length ≤ 100000) (hm : y.bind.want.length ≤ 100000) (hn : x.mail.head.length ≤ 100000) (ho : y.mail.head.length ≤ 100000) (hA : Prs w A x.bind.want) (hB : Prs w B x.mail.head) (hC : Prs w C y.bind.want) (hD : Prs w D y.mail.head) :
  Calls Tryz.prog 29 #[deV x A c B d, deV y C e D f] w fun r w' => r = .returned (.bool (decide (x = y))) ∧ Below w.heap.size w w' := by
 have h := r22Same_any0 x y A c B d C e D f w hl hm hn ho hA hB hC hD
 rwa [deEqR_dec] at h
def dsSame (l m : List Dp) : Bool := decide (l.map Dp.x = m.map Dp.x)
theorem dsSame_len {l m : List Dp} (h : l.length ≠ m.length) : dsSame l m = false := by
 unfold dsSame
 refine decide_eq_false fun e => h ?_
 have := congrArg List.length e
 simpa using this
theorem dsSame_no {l m : List Dp} {k : Nat} (hk : k < l.length) (hk2 : k < m.length) (h : (l.getD k Dp0).x ≠ (m.getD k Dp0).x) : dsSame l m = false := by
 unfold dsSame
 refine decide_eq_false fun e => h ?_
 have := congrArg (fun r => r[k]?) e
 simp only [List.getElem?_map, List.getElem?_eq_getElem hk, List.getElem?_eq_getElem hk2, Option.map_some] at this
 rw [← dp_get hk, ← dp_get hk2]
 exact Option.some.inj this
theorem dsSame_yes {l m : List Dp} (hn : l.length = m.length) (h : ∀ j, j < l.length → (l.getD j Dp0).x = (m.getD j Dp0).x) : dsSame l m = true := by
 unfold dsSame
 refine decide_eq_true (List.ext_getElem (by simpa using hn) fun j h1 h2 => ?_)
 rw [List.getElem_map, List.getElem_map]
 have hj : j < l.length := by simpa using h1
 have hj2 : j < m.length := by omega
 have := h j hj
 rw [← dp_get hj, ← dp_get hj2] at this
 exact this
set_option maxHeartbeats 16000000 in
theorem r22SameAll_any (l m : List Dp) (A : Option Addr) (c : Nat) (B : Option Addr) (d : Nat) (w : World) (hl : l.length ≤ 100000) (hm : m.length ≤ 100000) (hp : Dps w A l) (hq : Dps w B m) :
  Calls Tryz.prog 11 #[.slice A l.length c, .slice B m.length d] w fun e w' => e = .returned (.bool (dsSame l m)) ∧ Below w.heap.size w w' := by
 have HP := hid hp
 have HQ := hid hq
 have HLE := hid (fun h => dsSame_len (l := l) (m := m) h)
 have HNO := hid (fun k (h1 : k < l.length) (h2 : k < m.length) h => dsSame_no h1 h2 h)
 have HYES := hid (fun h1 h2 => dsSame_yes (l := l) (m := m) h1 h2)
 clear hp hq
 generalize dsSame l m = M at *
 obtain ⟨n, hn⟩ : ∃ n, n = l.length := ⟨_, rfl⟩
 rw [← hn] at hl
 rw [← hn]
 obtain ⟨n2, hn2⟩ : ∃ n, n = m.length := ⟨_, rfl⟩
 rw [← hn2] at hm
 rw [← hn2]
 have HN := hid hn
 have HN2 := hid hn2
 clear hn hn2
 by_cases he : n = n2
 ·subst he
  have hne : ((n : Int) != (n : Int)) = false := by simp
  go_enter Tryz.func11, Tryz.ntmps11
  go_wp2_with fail
  go_loopg [13] n (fun g i wr => ∃ k : Nat, k + g = n ∧ i = .int .i64 (k : Int) ∧ (∀ j, j < k → (l.getD j Dp0).x = (m.getD j Dp0).x) ∧ Below w.heap.size w wr)
  case atStart => exact ⟨0, by omega, rfl, fun j hj => absurd hj (by omega), Below.refl _ _⟩
  case round =>
   obtain ⟨k, hk, rfl, hno, hB⟩ := hrel
   have HB := hid hB
   have HSO := hid hno
   have HK := hid hk
   clear hB hno hk
   by_cases hlt : k < n
   ·have hki : (k : Int) < (n : Int) := by omega
    have hkl : k < l.length := by have := HN.out; omega
    have hkm : k < m.length := by have := HN2.out; omega
    obtain ⟨b1, o1, rfl, hb1, hat1, hok1⟩ := dps_elt (HP.out.on HB.out) hkl
    obtain ⟨b2, o2, rfl, hb2l, hat2, hok2⟩ := dps_elt (HQ.out.on HB.out) hkm
    have HNX : Hid ((l.getD k Dp0).x ≠ (m.getD k Dp0).x → M = false) := fun h => HNO.out k hkl hkm h
    have HSX : Hid ((l.getD k Dp0).x = (m.getD k Dp0).x → ∀ j, j < k + 1 → (l.getD j Dp0).x = (m.getD j Dp0).x) := fun h j hj => by
     by_cases e : j = k
     ·rw [e]; exact h
     ·exact HSO.out j (by omega)
    generalize hp1 : l.getD k Dp0 = p at hat1 hok1 HNX HSX
    generalize hp2 : m.getD k Dp0 = q at hat2 hok2 HNX HSX
    clear hp1 hp2
    obtain ⟨x, xA, xc, xB, xd⟩ := p
    obtain ⟨y, yA, yc, yB, yd⟩ := q
    have HX := hid (show wr.rangeAt b1 (o1 + k * 29) (deL x xA xc xB xd) from hat1)
    have HY := hid (show wr.rangeAt b2 (o2 + k * 29) (deL y yA yc yB yd) from hat2)
    have HXO := hid (show DeOk wr x xA xc xB xd from hok1)
    have HYO := hid (show DeOk wr y yA yc yB yd from hok2)
    have HSM := hid (fun W (g1 : DeOk W x xA xc xB xd) (g2 : DeOk W y yA yc yB yd) => r22Same_any x y xA xc xB xd yA yc yB yd W g1.bind.len g2.bind.len g1.mail.len g2.mail.len g1.bind.row g1.mail.row g2.bind.row g2.mail.row)
    clear hat1 hat2 hok1 hok2
    dsimp only at HNX HSX
    go_upto_region 6 with fail
    refine wp_region_held_drew (S := fun a => Below (wr.heap.size) wr a) (by kernel_rfl) (by (try dsimp only); exact (Below.refl _ _).drew) (fun hHeld => ?_)
    refine wpAnyH_take (i := 0) (oi := ⟨some 16, _, _, _, _, _⟩) (v := ?_) rfl (by kernel_rfl) (by kernel_rfl) (by kernel_rfl) (fun _ _ _ h => h) (Or.inl ⟨by rfl, ?_⟩) (by assumption) ?_
    rotate_left 1
    ·intro wS hSw; (try dsimp only at hSw); go_simp; try with_reducible rfl
    try simp only [Act.put, qxq45a, qxq45b, qxq45c]
    refine wpAnyH_take (i := 1) (oi := ⟨some 17, _, _, _, _, _⟩) (v := ?_) rfl (by kernel_rfl) (by kernel_rfl) (by kernel_rfl) (fun _ _ _ h => h) (Or.inl ⟨by rfl, ?_⟩) (by assumption) ?_
    rotate_left 1
    ·intro wS hSw; (try dsimp only at hSw); go_simp; try with_reducible rfl
    try simp only [Act.put, qxq45a, qxq45b, qxq45c]
    refine wpAnyH_take (i := 2) (oi := ⟨some 18, _, _, _, _, _⟩) (v := ?_) rfl (by kernel_rfl) (by kernel_rfl) (by kernel_rfl) (fun _ _ _ h => h) (Or.inl ⟨by rfl, ?_⟩) (by assumption) ?_
    rotate_left 1
    ·intro wS hSw; (try dsimp only at hSw); go_simp; try with_reducible rfl
    try simp only [Act.put, qxq45a, qxq45b, qxq45c]
    refine wpAnyH_take (i := 3) (oi := ⟨some 19, _, _, _, _, _⟩) (v := .agg (deL x xA xc xB xd).toArray) rfl (by kernel_rfl) (by kernel_rfl) (by kernel_rfl) (fun _ _ _ h => h) (yieldsIf_load_mid (by rfl) 59 _ (by rfl) b1 (o1 + k * 29) (by rfl) (deL x xA xc xB xd) _ (fun W9 h9 j v hj => (h9.cell (p := ⟨b1, o1 + k * 29 + j, none⟩) hb1).trans (HX.out j v hj)) Tryz.underlying59 rfl (by rw [rde_size, deL_len])) (by assumption) ?_
    try simp only [Act.put, qxq45a, qxq45b, qxq45c]
    refine wpAnyH_take (i := 4) (oi := ⟨some 20, _, _, _, _, _⟩) (v := ?_) rfl (by kernel_rfl) (by kernel_rfl) (by kernel_rfl) (fun _ _ _ h => h) (Or.inl ⟨by rfl, ?_⟩) (by assumption) ?_
    rotate_left 1
    ·intro wS hSw; (try dsimp only at hSw); go_simp; try with_reducible rfl
    try simp only [Act.put, qxq45a, qxq45b, qxq45c]
    refine wpAnyH_take (i := 5) (oi := ⟨some 21, _, _, _, _, _⟩) (v := ?_) rfl (by kernel_rfl) (by kernel_rfl) (by kernel_rfl) (fun _ _ _ h => h) (Or.inl ⟨by rfl, ?_⟩) (by assumption) ?_
    rotate_left 1
    ·intro wS hSw; (try dsimp only at hSw); go_simp; try with_reducible rfl
    try simp only [Act.put, qxq45a, qxq45b, qxq45c]
    refine wpAnyH_take (i := 6) (oi := ⟨some 22, _, _, _, _, _⟩) (v := ?_) rfl (by kernel_rfl) (by kernel_rfl) (by kernel_rfl) (fun _ _ _ h => h) (Or.inl ⟨by rfl, ?_⟩) (by assumption) ?_
    rotate_left 1
    ·intro wS hSw; (try dsimp only at hSw); go_simp; try with_reducible rfl
    try simp only [Act.put, qxq45a, qxq45b, qxq45c]
    refine wpAnyH_take (i := 7) (oi := ⟨some 23, _, _, _, _, _⟩) (v := .agg (deL y yA yc yB yd).toArray) rfl (by kernel_rfl) (by kernel_rfl) (by kernel_rfl) (fun _ _ _ h => h) (yieldsIf_load_mid (by rfl) 59 _ (by rfl) b2 (o2 + k * 29) (by rfl) (deL y yA yc yB yd) _ (fun W9 h9 j v hj => (h9.cell (p := ⟨b2, o2 + k * 29 + j, none⟩) hb2l).trans (HY.out j v hj)) Tryz.underlying59 rfl (by rw [rde_size, deL_len])) (by assumption) ?_
    try simp only [Act.put, qxq45a, qxq45b, qxq45c]
    refine wpAnyH_ready (rs := [8]) (by kernel_rfl) (by simp) ?_
    refine AllReadyH.cons (o := ⟨some 24, _, _, _, _, _⟩) rfl (fun K hK => ?_) (AllReadyH.nil)
    go_simp
    go_at_call 29
    refine (HSM.out _ (HXO.out.on hHeld) (HYO.out.on hHeld)).mono ?_
    rintro e wx ⟨rfl, hb2⟩
    refine hK.out _ _ (bthen hHeld hb2 (Nat.le_refl _)) (fun hHeld2 => ?_)
    clear hK K hHeld hb2
    have hHeld := hHeld2
    clear hHeld2
    try simp only [Act.put, qxq45a, qxq45b, qxq45c]
    refine wpAnyH_take (i := 9) (oi := ⟨some 25, _, _, _, _, _⟩) (v := ?_) rfl (by kernel_rfl) (by kernel_rfl) (by kernel_rfl) (fun _ _ _ h => h) (Or.inl ⟨by rfl, ?_⟩) (by assumption) ?_
    rotate_left 1
    ·intro wS hSw; (try dsimp only at hSw); go_simp; try with_reducible rfl
    try simp only [Act.put, qxq45a, qxq45b, qxq45c]
    refine wpAnyH_done (by kernel_rfl) ?_ _
    have hZ := hHeld
    clear hHeld
    have HB6 := hid (bthen HB.out hZ (Nat.le_refl _))
    clear hZ
    by_cases hxy : x = y
    ·have HS2 := hid (HSX.out hxy)
     rw [decide_eq_true hxy]
     clear hxy
     go_wp2_with fail
     go_roundg (gk - 1)
     case rel => exact ⟨k + 1, by have := HK.out; omega, by go_num, HS2.out, HB6.out⟩
     case measure => have := HK.out; omega
    ·have HM := hid (HNX.out hxy)
     rw [decide_eq_false hxy]
     clear hxy
     go_wp2_with fail
     go_ret
     exact ⟨ret_bool HM.out.symm, HB6.out⟩
   ·have hkn : k = n := by have := HK.out; omega
    have HM := hid (HYES.out (by have := HN.out; have := HN2.out; omega) (fun j hj => HSO.out j (by have := HN.out; omega)))
    subst hkn
    go_wp2_with fail
    go_ret
    exact ⟨ret_bool HM.out.symm, HB.out⟩
 ·have hne : ((n : Int) != (n2 : Int)) = true := by simp; omega
  have HM := hid (HLE.out (by have := HN.out; have := HN2.out; omega))
  go_enter Tryz.func11, Tryz.ntmps11
  go_wp2_with fail
  go_ret
  exact ⟨ret_bool HM.out.symm, Below.refl _ _⟩
theorem r22maybe_any (s : List UInt8) (w : World) (hs : s.length ≤ 90000) : Calls Tryz.prog 48 #[.string (ofL s)] w fun e w' => e = .returned (.int .i64 (De.maybe s : Int)) ∧ w = w' := by
 have HN := hid (fun W => rname_any s W (by omega))
 have HC : Hid (De.maybe s = if s = [] then 0 else Wrd.nameCode s) := rfl
 generalize De.maybe s = C at *
 generalize Wrd.nameCode s = K at *
 by_cases h : s = []
 ·have he := emp_yes h
  have HE := hid (show C = 0 by rw [HC.out, if_pos h])
  clear h
  go_enter Tryz.func48, Tryz.ntmps48
  go_wp2_with fail
  go_ret
  exact ⟨ret_nat (by rw [HE.out]; rfl), rfl⟩
 ·have he := emp_no h
  have HE := hid (show C = K by rw [HC.out, if_neg h])
  clear h
  go_enter Tryz.func48, Tryz.ntmps48
  go_wp2_with fail
  refine (HN.out _).mono ?_
  rintro e w1 ⟨rfl, rfl⟩
  go_wp2_with fail
  go_ret
  exact ⟨ret_nat (by rw [HE.out]), rfl⟩
theorem r22names_any (k : Nat) (w : World) : Calls Tryz.prog 51 #[.int .u8 (k : Int)] w fun e w' => e = .returned (.bool (De.names k)) ∧ w = w' := by
 have HC : Hid (De.names k = (k == 1 || k == 3 || k == 7 || k == 8)) := rfl
 have q1 : ((k : Int) == 1) = (k == 1) := cast_beq k 1
 have q3 : ((k : Int) == 3) = (k == 3) := cast_beq k 3
 have q7 : ((k : Int) == 7) = (k == 7) := cast_beq k 7
 have q8 : ((k : Int) == 8) = (k == 8) := cast_beq k 8
 cases h1 : k == 1 with
 | true =>
  rw [h1] at q1
  have HE := hid (show De.names k = true by rw [HC.out, h1]; simp)
  clear h1
  go_enter Tryz.func51, Tryz.ntmps51
  go_wp2_with fail
  go_ret
  exact ⟨ret_bool HE.out.symm, rfl⟩
 | false =>
  rw [h1] at q1
  cases h3 : k == 3 with
  | true =>
   rw [h3] at q3
   have HE := hid (show De.names k = true by rw [HC.out, h3]; simp)
   clear h1 h3
   go_enter Tryz.func51, Tryz.ntmps51
   go_wp2_with fail
   go_ret
   exact ⟨ret_bool HE.out.symm, rfl⟩
  | false =>
   rw [h3] at q3
   cases h7 : k == 7 with
   | true =>
    rw [h7] at q7
    have HE := hid (show De.names k = true by rw [HC.out, h7]; simp)
    clear h1 h3 h7
    go_enter Tryz.func51, Tryz.ntmps51
    go_wp2_with fail
    go_ret
    exact ⟨ret_bool HE.out.symm, rfl⟩
   | false =>
    rw [h7] at q7
    have HE := hid (show De.names k = (k == 8) by rw [HC.out, h1, h3, h7]; simp)
    clear h1 h3 h7
    generalize (k == 8) = B8 at *
    go_enter Tryz.func51, Tryz.ntmps51
    go_wp2_with fail
    go_ret
    exact ⟨ret_bool HE.out.symm, rfl⟩
set_option maxHeartbeats 4000000 in
theorem r22checkBind_any (x : Bd) (A : Option Addr) (c : Nat) (w : World) (h : BdOk w x A c) :
  Calls Tryz.prog 49 #[bdV x A c] w fun e w' => e = .returned (.int .i64 (De.bdc x : Int)) ∧ Below w.heap.size w w' := by
 have HB1 := hid (rtOne w (.cells #[.string (ofL x.shop), .string (ofL x.to), .bool x.up, .string (ofL x.key), .slice A x.want.length c, .bool x.all] 57))
 have HX1 := hid (rtAt0 w #[.string (ofL x.shop), .string (ofL x.to), .bool x.up, .string (ofL x.key), .slice A x.want.length c, .bool x.all] 57)
 have HN1 := hid (fun W => rname_any x.shop W (by have := h.shop; omega))
 have HN2 := hid (fun W => rname_any x.to W (by have := h.tol; omega))
 have HH := hid (fun W (g : Prs W A x.want) => rCheck9_any x.want A c W h.len h.cap h.lite g)
 have HROW := hid (h.row.on HB1.out)
 have HC : Hid (De.bdc x = if Wrd.nameCode x.shop ≠ 0 then Wrd.nameCode x.shop else if Wrd.nameCode x.to ≠ 0 then Wrd.nameCode x.to else if 64 < x.key.length then 5 else Hd.hcode x.want) := rfl
 have hz : (ofL x.key).size = x.key.length := ofL_size _
 clear h
 generalize De.bdc x = C at *
 generalize Wrd.nameCode x.shop = K1 at *
 generalize Wrd.nameCode x.to = K2 at *
 generalize Hd.hcode x.want = K4 at *
 simp only [bdV]
 go_enter Tryz.func49, Tryz.ntmps49
 go_upto_region 1 with fail
 generalize w.alloc (.cells #[.string (ofL x.shop), .string (ofL x.to), .bool x.up, .string (ofL x.key), .slice A x.want.length c, .bool x.all] 57) = W1 at *
 have c0 := HX1.out.cs 0 _ rfl
 have c1 := HX1.out.cs 1 _ rfl
 have c2 := HX1.out.cs 2 _ rfl
 have c3 := HX1.out.cs 3 _ rfl
 have c4 := HX1.out.cs 4 _ rfl
 have c5 := HX1.out.cs 5 _ rfl
 have cl := HX1.out.lt
 by_cases e1 : K1 = 0
 ·have f1 : ((K1 : Int) == 0) = true := by rw [e1]; rfl
  by_cases e2 : K2 = 0
  ·have f2 : ((K2 : Int) == 0) = true := by rw [e2]; rfl
   by_cases e5 : 64 < x.key.length
   ·have HE := hid (show C = 5 by rw [HC.out, if_neg (by omega), if_neg (by omega), if_pos e5])
    have h5 : 64 < (ofL x.key).size := by omega
    have h6 : decide (((ofL x.key).size : Int) > 64) = true := decide_eq_true (by omega)
    clear e1 e2 e5 hz
    go_wp2_with fail
    refine (HN1.out _).mono ?_
    rintro e w1 ⟨rfl, rfl⟩
    go_wp2_with fail
    refine (HN2.out _).mono ?_
    rintro e w2 ⟨rfl, rfl⟩
    go_wp2_with fail
    go_ret
    exact ⟨ret_nat (by rw [HE.out]; rfl), HB1.out⟩
   ·have HE := hid (show C = K4 by rw [HC.out, if_neg (by omega), if_neg (by omega), if_neg e5])
    have h5 : ¬ 64 < (ofL x.key).size := by omega
    have h6 : decide (((ofL x.key).size : Int) > 64) = false := decide_eq_false (by omega)
    clear e1 e2 e5 hz
    go_wp2_with fail
    refine (HN1.out _).mono ?_
    rintro e w1 ⟨rfl, rfl⟩
    go_wp2_with fail
    refine (HN2.out _).mono ?_
    rintro e w2 ⟨rfl, rfl⟩
    go_wp2_with fail
    refine (HH.out _ HROW.out).mono ?_
    rintro e w3 ⟨rfl, b3⟩
    have HB3 := hid (bthen HB1.out b3 (Nat.le_refl _))
    clear b3
    go_wp2_with fail
    go_ret
    exact ⟨ret_nat (by rw [HE.out]), HB3.out⟩
  ·have f2 : ((K2 : Int) == 0) = false := beq_eq_false_iff_ne.2 (by omega)
   have HE := hid (show C = K2 by rw [HC.out, if_neg (by omega), if_pos e2])
   clear e1 hz
   go_wp2_with fail
   refine (HN1.out _).mono ?_
   rintro e w1 ⟨rfl, rfl⟩
   go_wp2_with fail
   refine (HN2.out _).mono ?_
   rintro e w2 ⟨rfl, rfl⟩
   go_wp2_with fail
   go_ret
   exact ⟨ret_nat (by rw [HE.out]), HB1.out⟩
 ·have f1 : ((K1 : Int) == 0) = false := beq_eq_false_iff_ne.2 (by omega)
  have HE := hid (show C = K1 by rw [HC.out, if_pos e1])
  clear hz
  go_wp2_with fail
  refine (HN1.out _).mono ?_
  rintro e w1 ⟨rfl, rfl⟩
  go_wp2_with fail
  go_ret
  exact ⟨ret_nat (by rw [HE.out]), HB1.out⟩
end Go.Proofs.YtaikigponkjkgaaGreatDoor
end
