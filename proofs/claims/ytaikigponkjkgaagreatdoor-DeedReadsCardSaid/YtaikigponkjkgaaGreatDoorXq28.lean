/-
 A part of the proof.
-/
import Derived.Test.YtaikigponkjkgaaGreatDoorXq22
import Derived.Test.YtaikigponkjkgaaGreatDoorXq27

section
namespace Go.Proofs.YtaikigponkjkgaaGreatDoor
open Go.ChangeShapes Go.WideShapes Go.ChangeAt Go.RowKit
open Go.Lib (hid)
set_option maxRecDepth 100000
def bdEqD (x y : Bd) : Bool := (x.shop == y.shop) && (x.to == y.to) && (x.up == y.up) && (x.key == y.key) && decide (x.want = y.want) && (x.all == y.all)
set_option maxHeartbeats 8000000 in
theorem ddsameBind_any0 (x y : Bd) (A : Option Addr) (c : Nat) (B : Option Addr) (d : Nat) (w : World) (hl : x.want.length ≤ 100000) (hm : y.want.length ≤ 100000) (hA : Prs w A x.want) (hB : Prs w B y.want) :
  Calls Tryz.prog 99 #[bdV x A c, bdV y B d] w fun e w' => e = .returned (.bool (bdEqD x y)) ∧ Below w.heap.size w w' := by
 have HB0 := hid (show Below w.heap.size w ((w.alloc (.cells #[.string (ofL x.shop), .string (ofL x.to), .bool x.up, .string (ofL x.key), .slice A x.want.length c, .bool x.all] 48)).alloc (.cells #[.string (ofL y.shop), .string (ofL y.to), .bool y.up, .string (ofL y.key), .slice B y.want.length d, .bool y.all] 48)) from ((Below.refl _ _).alloc (Nat.le_refl _) _).alloc (by simp) _)
 have HXP := hid (show Cels ((w.alloc (.cells #[.string (ofL x.shop), .string (ofL x.to), .bool x.up, .string (ofL x.key), .slice A x.want.length c, .bool x.all] 48)).alloc (.cells #[.string (ofL y.shop), .string (ofL y.to), .bool y.up, .string (ofL y.key), .slice B y.want.length d, .bool y.all] 48)) w.heap.size [.string (ofL x.shop), .string (ofL x.to), .bool x.up, .string (ofL x.key), .slice A x.want.length c, .bool x.all] from (Cels.new w #[.string (ofL x.shop), .string (ofL x.to), .bool x.up, .string (ofL x.key), .slice A x.want.length c, .bool x.all] 48).on ((Below.refl _ _).alloc (Nat.le_refl _) _) (by simp))
 have HYP := hid (show Cels ((w.alloc (.cells #[.string (ofL x.shop), .string (ofL x.to), .bool x.up, .string (ofL x.key), .slice A x.want.length c, .bool x.all] 48)).alloc (.cells #[.string (ofL y.shop), .string (ofL y.to), .bool y.up, .string (ofL y.key), .slice B y.want.length d, .bool y.all] 48)) (w.heap.size + 1) [.string (ofL y.shop), .string (ofL y.to), .bool y.up, .string (ofL y.key), .slice B y.want.length d, .bool y.all] by
  have := Cels.new (w.alloc (.cells #[.string (ofL x.shop), .string (ofL x.to), .bool x.up, .string (ofL x.key), .slice A x.want.length c, .bool x.all] 48)) #[.string (ofL y.shop), .string (ofL y.to), .bool y.up, .string (ofL y.key), .slice B y.want.length d, .bool y.all] 48
  simpa using this)
 have HPA := hid (hA.on HB0.out)
 have HPB := hid (hB.on HB0.out)
 have HW := hid (fun W h1 h2 => hsame_any x.want y.want A c B d W hl hm h1 h2)
 have HX : Hid (bdEqD x y = ((x.shop == y.shop) && (x.to == y.to) && (x.up == y.up) && (x.key == y.key) && decide (x.want = y.want) && (x.all == y.all))) := rfl
 clear hA hB
 generalize bdEqD x y = SB at *
 simp only [bdV] at *
 generalize decide (x.want = y.want) = M at *
 have h0 := str_same x.shop y.shop
 cases e0 : (x.shop == y.shop) with
 | false =>
  rw [e0] at h0
  go_enter Tryz.func99, Tryz.ntmps99
  go_wp2_with fail
  go_ret
  exact ⟨ret_bool (by rw [HX.out, e0]; simp), HB0.out⟩
 | true =>
  rw [e0] at h0
  have h1 := str_same x.to y.to
  cases e1 : (x.to == y.to) with
  | false =>
   rw [e1] at h1
   go_enter Tryz.func99, Tryz.ntmps99
   go_wp2_with fail
   go_ret
   exact ⟨ret_bool (by rw [HX.out, e0, e1]; simp), HB0.out⟩
  | true =>
   rw [e1] at h1
   have h2 : (x.up == y.up) = (x.up == y.up) := rfl
   cases e2 : (x.up == y.up) with
   | false =>
    rw [e2] at h2
    go_enter Tryz.func99, Tryz.ntmps99
    go_wp2_with fail
    go_ret
    exact ⟨ret_bool (by rw [HX.out, e0, e1, e2]; simp), HB0.out⟩
   | true =>
    rw [e2] at h2
    have h3 := str_same x.key y.key
    cases e3 : (x.key == y.key) with
    | false =>
     rw [e3] at h3
     go_enter Tryz.func99, Tryz.ntmps99
     go_wp2_with fail
     go_ret
     exact ⟨ret_bool (by rw [HX.out, e0, e1, e2, e3]; simp), HB0.out⟩
    | true =>
     rw [e3] at h3
     cases e4 : M with
     | false =>
      rw [e4] at HW
      go_enter Tryz.func99, Tryz.ntmps99
      go_wp2_with fail
      refine (HW.out _ HPA.out HPB.out).mono ?_
      rintro e w1 ⟨rfl, b1⟩
      have HB1 := hid (bthen HB0.out b1 (Nat.le_refl _))
      have HXP1 := hid (HXP.out.on b1 (by simp; omega))
      have HYP1 := hid (HYP.out.on b1 (by simp))
      have lq : w.heap.size + 1 < w1.heap.size := by have := b1.size; simp at this; omega
      have lp : w.heap.size < w1.heap.size := by omega
      have c0 := HXP1.out 0 _ rfl
      have d0 := HYP1.out 0 _ rfl
      have c1 := HXP1.out 1 _ rfl
      have d1 := HYP1.out 1 _ rfl
      have c2 := HXP1.out 2 _ rfl
      have d2 := HYP1.out 2 _ rfl
      have c3 := HXP1.out 3 _ rfl
      have d3 := HYP1.out 3 _ rfl
      have c4 := HXP1.out 4 _ rfl
      have d4 := HYP1.out 4 _ rfl
      have c5 := HXP1.out 5 _ rfl
      have d5 := HYP1.out 5 _ rfl
      clear b1
      go_wp2_with fail
      go_ret
      exact ⟨ret_bool (by rw [HX.out, e0, e1, e2, e3, e4]; simp), HB1.out⟩
     | true =>
      rw [e4] at HW
      have h5 : (x.all == y.all) = (x.all == y.all) := rfl
      cases e5 : (x.all == y.all) with
      | false =>
       rw [e5] at h5
       go_enter Tryz.func99, Tryz.ntmps99
       go_wp2_with fail
       refine (HW.out _ HPA.out HPB.out).mono ?_
       rintro e w1 ⟨rfl, b1⟩
       have HB1 := hid (bthen HB0.out b1 (Nat.le_refl _))
       have HXP1 := hid (HXP.out.on b1 (by simp; omega))
       have HYP1 := hid (HYP.out.on b1 (by simp))
       have lq : w.heap.size + 1 < w1.heap.size := by have := b1.size; simp at this; omega
       have lp : w.heap.size < w1.heap.size := by omega
       have c0 := HXP1.out 0 _ rfl
       have d0 := HYP1.out 0 _ rfl
       have c1 := HXP1.out 1 _ rfl
       have d1 := HYP1.out 1 _ rfl
       have c2 := HXP1.out 2 _ rfl
       have d2 := HYP1.out 2 _ rfl
       have c3 := HXP1.out 3 _ rfl
       have d3 := HYP1.out 3 _ rfl
       have c4 := HXP1.out 4 _ rfl
       have d4 := HYP1.out 4 _ rfl
       have c5 := HXP1.out 5 _ rfl
       have d5 := HYP1.out 5 _ rfl
       clear b1
       go_wp2_with fail
       go_ret
       exact ⟨ret_bool (by rw [HX.out, e0, e1, e2, e3, e4, e5]; simp), HB1.out⟩
      | true =>
       rw [e5] at h5
       go_enter Tryz.func99, Tryz.ntmps99
       go_wp2_with fail
       refine (HW.out _ HPA.out HPB.out).mono ?_
       rintro e w1 ⟨rfl, b1⟩
       have HB1 := hid (bthen HB0.out b1 (Nat.le_refl _))
       have HXP1 := hid (HXP.out.on b1 (by simp; omega))
       have HYP1 := hid (HYP.out.on b1 (by simp))
       have lq : w.heap.size + 1 < w1.heap.size := by have := b1.size; simp at this; omega
       have lp : w.heap.size < w1.heap.size := by omega
       have c0 := HXP1.out 0 _ rfl
       have d0 := HYP1.out 0 _ rfl
       have c1 := HXP1.out 1 _ rfl
       have d1 := HYP1.out 1 _ rfl
       have c2 := HXP1.out 2 _ rfl
       have d2 := HYP1.out 2 _ rfl
       have c3 := HXP1.out 3 _ rfl
       have d3 := HYP1.out 3 _ rfl
       have c4 := HXP1.out 4 _ rfl
       have d4 := HYP1.out 4 _ rfl
       have c5 := HXP1.out 5 _ rfl
       have d5 := HYP1.out 5 _ rfl
       clear b1
       go_wp2_with fail
       go_ret
       exact ⟨ret_bool (by rw [HX.out, e0, e1, e2, e3, e4, e5]; simp), HB1.out⟩
theorem bdEqD_dec (x y : Bd) : bdEqD x y = decide (x = y) := by
 unfold bdEqD
 cases x; cases y
 rw [Bool.eq_iff_iff]
 simp [Bd.mk.injEq, and_assoc]
theorem ddsameBind_any (x y : Bd) (A : Option Addr) (c : Nat) (B : Option Addr) (d : Nat) (w : World) (hl : x.want.length ≤ 100000) (hm : y.want.length ≤ 100000) (hA : Prs w A x.want) (hB : Prs w B y.want) :
  Calls Tryz.prog 99 #[bdV x A c, bdV y B d] w fun e w' => e = .returned (.bool (decide (x = y))) ∧ Below w.heap.size w w' := by
 have h := ddsameBind_any0 x y A c B d w hl hm hA hB
 rwa [bdEqD_dec] at h
theorem guardQu : Tryz.prog.eqGuardType Tryz.prog.depth 45 = false := by kernel_rfl
theorem stoodQu : Tryz.prog.stoodInHeld 45 = false := by kernel_rfl
theorem fieldsQu : Tryz.prog.fieldsOf 45 = #[⟨"Name", 9, 0, false, "", "", 0⟩, ⟨"Most", 41, 1, false, "", "", 16⟩, ⟨"Life", 41, 2, false, "", "", 24⟩, ⟨"Dead", 9, 3, false, "", "", 32⟩] := by kernel_rfl
theorem qu_eql (a : ByteArray) (b c : Int) (d : ByteArray) (a' : ByteArray) (b' c' : Int) (d' : ByteArray) (W : World) : (Op.equalIn 10000 45 (.agg #[.string a, .int .u64 b, .int .u64 c, .string d]) (.agg #[.string a', .int .u64 b', .int .u64 c', .string d'])).run Tryz.prog W = .ok ((a.toList == a'.toList) && (b == b') && (c == c') && (d.toList == d'.toList)) W := by
 rw [run_equalIn_agg (ht := by kernel_rfl) (hp := stoodQu), fieldsQu]
 simp [Op.eqFields, go_sem, Tryz.underlying41, Tryz.underlying9]
 by_cases h1 : a.toList = a'.toList <;> by_cases h2 : b = b' <;> by_cases h3 : c = c' <;> by_cases h4 : d.toList = d'.toList <;> simp [h1, h2, h3, h4]
theorem qu_eq (x y : Qu) (W : World) : (Op.equalIn 10000 45 (.agg #[.string (ofL x.name), .int .u64 (x.most : Int), .int .u64 (x.life : Int), .string (ofL x.dead)]) (.agg #[.string (ofL y.name), .int .u64 (y.most : Int), .int .u64 (y.life : Int), .string (ofL y.dead)])).run Tryz.prog W = .ok (decide (x = y)) W := by
 rw [← quEq_dec, show quEq x y = (((ofL x.name).toList == (ofL y.name).toList) && ((x.most : Int) == (y.most : Int)) && ((x.life : Int) == (y.life : Int)) && ((ofL x.dead).toList == (ofL y.dead).toList)) by rw [str_same, str_same, cast_beq, cast_beq]; rfl]
 exact qu_eql _ _ _ _ _ _ _ _ W
theorem ddmail_any (x y : Ml) (A : Option Addr) (c : Nat) (B : Option Addr) (d : Nat) (w : World) (hl : x.head.length ≤ 100000) (hm : y.head.length ≤ 100000) (hA : Prs w A x.head) (hB : Prs w B y.head) :
  Calls Tryz.prog 100 #[maV x A c, maV y B d] w fun e w' => e = .returned (.bool (decide (x = y))) ∧ Below w.heap.size w w' := by
 have h := ml_Same_any x y A c B d w hl hm hA hB
 rwa [maEq_decD] at h
attribute [local go_sem] guardSh guardQu
set_option maxHeartbeats 16000000 in
theorem ddSame_any0 (x y : De) (A : Option Addr) (c : Nat) (B : Option Addr) (d : Nat) (C : Option Addr) (e : Nat) (D : Option Addr) (f : Nat) (w : World) (hl : x.bind.want.length ≤ 100000) (hm : y.bind.want.length ≤ 100000) (hn : x.mail.head.length ≤ 100000) (ho : y.mail.head.length ≤ 100000) (hA : Prs w A x.bind.want) (hB : Prs w B x.mail.head) (hC : Prs w C y.bind.want) (hD : Prs w D y.mail.head) :
  Calls Tryz.prog 71 #[deV x A c B d, deV y C e D f] w fun r w' => r = .returned (.bool (deEq x y)) ∧ Below w.heap.size w w' := by
 have HB0 := hid (rtTwo w (.cells #[.int .u8 (x.kd : Int), .int .u64 (x.tick : Int), .string (ofL x.shop.name), .int .u8 (x.shop.sort : Int), .string (ofL x.shop.to), .string (ofL x.q.name), .int .u64 (x.q.most : Int), .int .u64 (x.q.life : Int), .string (ofL x.q.dead), .string (ofL x.bind.shop), .string (ofL x.bind.to), .bool x.bind.up, .string (ofL x.bind.key), .slice A x.bind.want.length c, .bool x.bind.all, .string (ofL x.name), .int .u64 (x.id : Int), .int .u8 (x.how : Int), .int .u8 (x.frm : Int), .int .u8 (x.cd : Int), .int .u64 (x.num : Int), .int .u64 (x.mail.id : Int), .string (ofL x.mail.shop), .string (ofL x.mail.key), .slice B x.mail.head.length d, .string (ofL x.mail.body), .int .u64 (x.mail.due : Int), .int .u8 (x.mail.hops : Int), .string (ofL x.text)] 52) (.cells #[.int .u8 (y.kd : Int), .int .u64 (y.tick : Int), .string (ofL y.shop.name), .int .u8 (y.shop.sort : Int), .string (ofL y.shop.to), .string (ofL y.q.name), .int .u64 (y.q.most : Int), .int .u64 (y.q.life : Int), .string (ofL y.q.dead), .string (ofL y.bind.shop), .string (ofL y.bind.to), .bool y.bind.up, .string (ofL y.bind.key), .slice C y.bind.want.length e, .bool y.bind.all, .string (ofL y.name), .int .u64 (y.id : Int), .int .u8 (y.how : Int), .int .u8 (y.frm : Int), .int .u8 (y.cd : Int), .int .u64 (y.num : Int), .int .u64 (y.mail.id : Int), .string (ofL y.mail.shop), .string (ofL y.mail.key), .slice D y.mail.head.length f, .string (ofL y.mail.body), .int .u64 (y.mail.due : Int), .int .u8 (y.mail.hops : Int), .string (ofL y.text)] 52))
 have HXP := hid ((DeX.start w x A c B d hA hB 52).on (rtOne _ (.cells #[.int .u8 (y.kd : Int), .int .u64 (y.tick : Int), .string (ofL y.shop.name), .int .u8 (y.shop.sort : Int), .string (ofL y.shop.to), .string (ofL y.q.name), .int .u64 (y.q.most : Int), .int .u64 (y.q.life : Int), .string (ofL y.q.dead), .string (ofL y.bind.shop), .string (ofL y.bind.to), .bool y.bind.up, .string (ofL y.bind.key), .slice C y.bind.want.length e, .bool y.bind.all, .string (ofL y.name), .int .u64 (y.id : Int), .int .u8 (y.how : Int), .int .u8 (y.frm : Int), .int .u8 (y.cd : Int), .int .u64 (y.num : Int), .int .u64 (y.mail.id : Int), .string (ofL y.mail.shop), .string (ofL y.mail.key), .slice D y.mail.head.length f, .string (ofL y.mail.body), .int .u64 (y.mail.due : Int), .int .u8 (y.mail.hops : Int), .string (ofL y.text)] 52)))
 have HYP := hid (DeX.next (w := w) (.cells #[.int .u8 (x.kd : Int), .int .u64 (x.tick : Int), .string (ofL x.shop.name), .int .u8 (x.shop.sort : Int), .string (ofL x.shop.to), .string (ofL x.q.name), .int .u64 (x.q.most : Int), .int .u64 (x.q.life : Int), .string (ofL x.q.dead), .string (ofL x.bind.shop), .string (ofL x.bind.to), .bool x.bind.up, .string (ofL x.bind.key), .slice A x.bind.want.length c, .bool x.bind.all, .string (ofL x.name), .int .u64 (x.id : Int), .int .u8 (x.how : Int), .int .u8 (x.frm : Int), .int .u8 (x.cd : Int), .int .u64 (x.num : Int), .int .u64 (x.mail.id : Int), .string (ofL x.mail.shop), .string (ofL x.mail.key), .slice B x.mail.head.length d, .string (ofL x.mail.body), .int .u64 (x.mail.due : Int), .int .u8 (x.mail.hops : Int), .string (ofL x.text)] 52) y C e D f hC hD 52)
 have HBC := hid (fun W h1 h2 => ddsameBind_any x.bind y.bind A c C e W hl hm h1 h2)
 have HMC := hid (fun W h1 h2 => ddmail_any x.mail y.mail B d D f W hn ho h1 h2)
 skip
 have HX : Hid (deEq x y = ((x.kd == y.kd) && ((x.tick == y.tick) && (decide (x.shop = y.shop) && (decide (x.q = y.q) && (decide (x.bind = y.bind) && ((x.name == y.name) && ((x.id == y.id) && ((x.how == y.how) && ((x.frm == y.frm) && ((x.cd == y.cd) && ((x.num == y.num) && (decide (x.mail = y.mail) && ((x.text == y.text))))))))))))))) := rfl
 have HQS := fun W => sh_eq x.shop y.shop W
 have HQQ := fun W => qu_eq x.q y.q W
 clear hA hB hC hD
 generalize deEq x y = SB at *
 generalize decide (x.bind = y.bind) = M at *
 generalize decide (x.mail = y.mail) = M2 at *
 generalize decide (x.shop = y.shop) = M3 at *
 generalize decide (x.q = y.q) = M4 at *
 simp only [deV, bdV, maV] at *
 have h0 := cast_beq x.kd y.kd
 cases e0 : (x.kd == y.kd) with
 | false =>
  rw [e0] at h0
  go_enter Tryz.func71, Tryz.ntmps71
  go_upto_region 1 with fail
  simp only [List.append_eq, List.cons_append, List.nil_append]
  go_wp2_with fail
  go_ret
  exact ⟨ret_bool (by rw [HX.out, e0]; simp), HB0.out⟩
 | true =>
  rw [e0] at h0
  have h1 := cast_beq x.tick y.tick
  cases e1 : (x.tick == y.tick) with
  | false =>
   rw [e1] at h1
   go_enter Tryz.func71, Tryz.ntmps71
   go_upto_region 1 with fail
   simp only [List.append_eq, List.cons_append, List.nil_append]
   go_wp2_with fail
   go_ret
   exact ⟨ret_bool (by rw [HX.out, e0, e1]; simp), HB0.out⟩
  | true =>
   rw [e1] at h1
   cases e2 : M3 with
   | false =>
    rw [e2] at HQS
    go_enter Tryz.func71, Tryz.ntmps71
    go_upto_region 1 with fail
    simp only [List.append_eq, List.cons_append, List.nil_append]
    go_wp2_with fail
    go_ret
    exact ⟨ret_bool (by rw [HX.out, e0, e1, e2]; simp), HB0.out⟩
   | true =>
    rw [e2] at HQS
    cases e3 : M4 with
    | false =>
     rw [e3] at HQQ
     go_enter Tryz.func71, Tryz.ntmps71
     go_upto_region 1 with fail
     simp only [List.append_eq, List.cons_append, List.nil_append]
     go_wp2_with fail
     go_ret
     exact ⟨ret_bool (by rw [HX.out, e0, e1, e2, e3]; simp), HB0.out⟩
    | true =>
     rw [e3] at HQQ
     cases e4 : M with
     | false =>
      rw [e4] at HBC
      go_enter Tryz.func71, Tryz.ntmps71
      go_upto_region 1 with fail
      simp only [List.append_eq, List.cons_append, List.nil_append]
      go_wp2_with fail
      refine (HBC.out _ HXP.out.ra HYP.out.ra).mono ?_
      rintro r w1 ⟨rfl, b1⟩
      have HB1 := hid (bthen HB0.out b1 (Nat.le_refl _))
      have HXP1 := hid (HXP.out.on b1)
      have HYP1 := hid (HYP.out.on b1)
      have lp := HXP1.out.p.lt
      have lq := HYP1.out.p.lt
      have c15 := HXP1.out.p.cs 15 _ rfl
      have d15 := HYP1.out.p.cs 15 _ rfl
      have c16 := HXP1.out.p.cs 16 _ rfl
      have d16 := HYP1.out.p.cs 16 _ rfl
      have c17 := HXP1.out.p.cs 17 _ rfl
      have d17 := HYP1.out.p.cs 17 _ rfl
      have c18 := HXP1.out.p.cs 18 _ rfl
      have d18 := HYP1.out.p.cs 18 _ rfl
      have c19 := HXP1.out.p.cs 19 _ rfl
      have d19 := HYP1.out.p.cs 19 _ rfl
      have c20 := HXP1.out.p.cs 20 _ rfl
      have d20 := HYP1.out.p.cs 20 _ rfl
      have c21 := HXP1.out.p.cs 21 _ rfl
      have d21 := HYP1.out.p.cs 21 _ rfl
      have c22 := HXP1.out.p.cs 22 _ rfl
      have d22 := HYP1.out.p.cs 22 _ rfl
      have c23 := HXP1.out.p.cs 23 _ rfl
      have d23 := HYP1.out.p.cs 23 _ rfl
      have c24 := HXP1.out.p.cs 24 _ rfl
      have d24 := HYP1.out.p.cs 24 _ rfl
      have c25 := HXP1.out.p.cs 25 _ rfl
      have d25 := HYP1.out.p.cs 25 _ rfl
      have c26 := HXP1.out.p.cs 26 _ rfl
      have d26 := HYP1.out.p.cs 26 _ rfl
      have c27 := HXP1.out.p.cs 27 _ rfl
      have d27 := HYP1.out.p.cs 27 _ rfl
      have c28 := HXP1.out.p.cs 28 _ rfl
      have d28 := HYP1.out.p.cs 28 _ rfl
      clear b1
      go_wp2_with fail
      go_ret
      exact ⟨ret_bool (by rw [HX.out, e0, e1, e2, e3, e4]; simp), HB1.out⟩
     | true =>
      rw [e4] at HBC
      have h5 := str_same x.name y.name
      cases e5 : (x.name == y.name) with
      | false =>
       rw [e5] at h5
       go_enter Tryz.func71, Tryz.ntmps71
       go_upto_region 1 with fail
       simp only [List.append_eq, List.cons_append, List.nil_append]
       go_wp2_with fail
       refine (HBC.out _ HXP.out.ra HYP.out.ra).mono ?_
       rintro r w1 ⟨rfl, b1⟩
       have HB1 := hid (bthen HB0.out b1 (Nat.le_refl _))
       have HXP1 := hid (HXP.out.on b1)
       have HYP1 := hid (HYP.out.on b1)
       have lp := HXP1.out.p.lt
       have lq := HYP1.out.p.lt
       have c15 := HXP1.out.p.cs 15 _ rfl
       have d15 := HYP1.out.p.cs 15 _ rfl
       have c16 := HXP1.out.p.cs 16 _ rfl
       have d16 := HYP1.out.p.cs 16 _ rfl
       have c17 := HXP1.out.p.cs 17 _ rfl
       have d17 := HYP1.out.p.cs 17 _ rfl
       have c18 := HXP1.out.p.cs 18 _ rfl
       have d18 := HYP1.out.p.cs 18 _ rfl
       have c19 := HXP1.out.p.cs 19 _ rfl
       have d19 := HYP1.out.p.cs 19 _ rfl
       have c20 := HXP1.out.p.cs 20 _ rfl
       have d20 := HYP1.out.p.cs 20 _ rfl
       have c21 := HXP1.out.p.cs 21 _ rfl
       have d21 := HYP1.out.p.cs 21 _ rfl
       have c22 := HXP1.out.p.cs 22 _ rfl
       have d22 := HYP1.out.p.cs 22 _ rfl
       have c23 := HXP1.out.p.cs 23 _ rfl
       have d23 := HYP1.out.p.cs 23 _ rfl
       have c24 := HXP1.out.p.cs 24 _ rfl
       have d24 := HYP1.out.p.cs 24 _ rfl
       have c25 := HXP1.out.p.cs 25 _ rfl
       have d25 := HYP1.out.p.cs 25 _ rfl
       have c26 := HXP1.out.p.cs 26 _ rfl
       have d26 := HYP1.out.p.cs 26 _ rfl
       have c27 := HXP1.out.p.cs 27 _ rfl
       have d27 := HYP1.out.p.cs 27 _ rfl
       have c28 := HXP1.out.p.cs 28 _ rfl
       have d28 := HYP1.out.p.cs 28 _ rfl
       clear b1
       go_wp2_with fail
       go_ret
       exact ⟨ret_bool (by rw [HX.out, e0, e1, e2, e3, e4, e5]; simp), HB1.out⟩
      | true =>
       rw [e5] at h5
       have h6 := cast_beq x.id y.id
       cases e6 : (x.id == y.id) with
       | false =>
        rw [e6] at h6
        go_enter Tryz.func71, Tryz.ntmps71
        go_upto_region 1 with fail
        simp only [List.append_eq, List.cons_append, List.nil_append]
        go_wp2_with fail
        refine (HBC.out _ HXP.out.ra HYP.out.ra).mono ?_
        rintro r w1 ⟨rfl, b1⟩
        have HB1 := hid (bthen HB0.out b1 (Nat.le_refl _))
        have HXP1 := hid (HXP.out.on b1)
        have HYP1 := hid (HYP.out.on b1)
        have lp := HXP1.out.p.lt
        have lq := HYP1.out.p.lt
        have c15 := HXP1.out.p.cs 15 _ rfl
        have d15 := HYP1.out.p.cs 15 _ rfl
        have c16 := HXP1.out.p.cs 16 _ rfl
        have d16 := HYP1.out.p.cs 16 _ rfl
        have c17 := HXP1.out.p.cs 17 _ rfl
        have d17 := HYP1.out.p.cs 17 _ rfl
        have c18 := HXP1.out.p.cs 18 _ rfl
        have d18 := HYP1.out.p.cs 18 _ rfl
        have c19 := HXP1.out.p.cs 19 _ rfl
        have d19 := HYP1.out.p.cs 19 _ rfl
        have c20 := HXP1.out.p.cs 20 _ rfl
        have d20 := HYP1.out.p.cs 20 _ rfl
        have c21 := HXP1.out.p.cs 21 _ rfl
        have d21 := HYP1.out.p.cs 21 _ rfl
        have c22 := HXP1.out.p.cs 22 _ rfl
        have d22 := HYP1.out.p.cs 22 _ rfl
        have c23 := HXP1.out.p.cs 23 _ rfl
        have d23 := HYP1.out.p.cs 23 _ rfl
        have c24 := HXP1.out.p.cs 24 _ rfl
        have d24 := HYP1.out.p.cs 24 _ rfl
        have c25 := HXP1.out.p.cs 25 _ rfl
        have d25 := HYP1.out.p.cs 25 _ rfl
        have c26 := HXP1.out.p.cs 26 _ rfl
        have d26 := HYP1.out.p.cs 26 _ rfl
        have c27 := HXP1.out.p.cs 27 _ rfl
        have d27 := HYP1.out.p.cs 27 _ rfl
        have c28 := HXP1.out.p.cs 28 _ rfl
        have d28 := HYP1.out.p.cs 28 _ rfl
        clear b1
        go_wp2_with fail
        go_ret
        exact ⟨ret_bool (by rw [HX.out, e0, e1, e2, e3, e4, e5, e6]; simp), HB1.out⟩
       | true =>
        rw [e6] at h6
        have h7 := cast_beq x.how y.how
        cases e7 : (x.how == y.how) with
        | false =>
         rw [e7] at h7
         go_enter Tryz.func71, Tryz.ntmps71
         go_upto_region 1 with fail
         simp only [List.append_eq, List.cons_append, List.nil_append]
         go_wp2_with fail
         refine (HBC.out _ HXP.out.ra HYP.out.ra).mono ?_
         rintro r w1 ⟨rfl, b1⟩
         have HB1 := hid (bthen HB0.out b1 (Nat.le_refl _))
         have HXP1 := hid (HXP.out.on b1)
         have HYP1 := hid (HYP.out.on b1)
         have lp := HXP1.out.p.lt
         have lq := HYP1.out.p.lt
         have c15 := HXP1.out.p.cs 15 _ rfl
         have d15 := HYP1.out.p.cs 15 _ rfl
         have c16 := HXP1.out.p.cs 16 _ rfl
         have d16 := HYP1.out.p.cs 16 _ rfl
         have c17 := HXP1.out.p.cs 17 _ rfl
         have d17 := HYP1.out.p.cs 17 _ rfl
         have c18 := HXP1.out.p.cs 18 _ rfl
         have d18 := HYP1.out.p.cs 18 _ rfl
         have c19 := HXP1.out.p.cs 19 _ rfl
         have d19 := HYP1.out.p.cs 19 _ rfl
         have c20 := HXP1.out.p.cs 20 _ rfl
         have d20 := HYP1.out.p.cs 20 _ rfl
         have c21 := HXP1.out.p.cs 21 _ rfl
         have d21 := HYP1.out.p.cs 21 _ rfl
         have c22 := HXP1.out.p.cs 22 _ rfl
         have d22 := HYP1.out.p.cs 22 _ rfl
         have c23 := HXP1.out.p.cs 23 _ rfl
         have d23 := HYP1.out.p.cs 23 _ rfl
         have c24 := HXP1.out.p.cs 24 _ rfl
         have d24 := HYP1.out.p.cs 24 _ rfl
         have c25 := HXP1.out.p.cs 25 _ rfl
         have d25 := HYP1.out.p.cs 25 _ rfl
         have c26 := HXP1.out.p.cs 26 _ rfl
         have d26 := HYP1.out.p.cs 26 _ rfl
         have c27 := HXP1.out.p.cs 27 _ rfl
         have d27 := HYP1.out.p.cs 27 _ rfl
         have c28 := HXP1.out.p.cs 28 _ rfl
         have d28 := HYP1.out.p.cs 28 _ rfl
         clear b1
         go_wp2_with fail
         go_ret
         exact ⟨ret_bool (by rw [HX.out, e0, e1, e2, e3, e4, e5, e6, e7]; simp), HB1.out⟩
        | true =>
         rw [e7] at h7
         have h8 := cast_beq x.frm y.frm
         cases e8 : (x.frm == y.frm) with
         | false =>
          rw [e8] at h8
          go_enter Tryz.func71, Tryz.ntmps71
          go_upto_region 1 with fail
          simp only [List.append_eq, List.cons_append, List.nil_append]
          go_wp2_with fail
          refine (HBC.out _ HXP.out.ra HYP.out.ra).mono ?_
          rintro r w1 ⟨rfl, b1⟩
          have HB1 := hid (bthen HB0.out b1 (Nat.le_refl _))
          have HXP1 := hid (HXP.out.on b1)
          have HYP1 := hid (HYP.out.on b1)
          have lp := HXP1.out.p.lt
          have lq := HYP1.out.p.lt
          have c15 := HXP1.out.p.cs 15 _ rfl
          have d15 := HYP1.out.p.cs 15 _ rfl
          have c16 := HXP1.out.p.cs 16 _ rfl
          have d16 := HYP1.out.p.cs 16 _ rfl
          have c17 := HXP1.out.p.cs 17 _ rfl
          have d17 := HYP1.out.p.cs 17 _ rfl
          have c18 := HXP1.out.p.cs 18 _ rfl
          have d18 := HYP1.out.p.cs 18 _ rfl
          have c19 := HXP1.out.p.cs 19 _ rfl
          have d19 := HYP1.out.p.cs 19 _ rfl
          have c20 := HXP1.out.p.cs 20 _ rfl
          have d20 := HYP1.out.p.cs 20 _ rfl
          have c21 := HXP1.out.p.cs 21 _ rfl
          have d21 := HYP1.out.p.cs 21 _ rfl
          have c22 := HXP1.out.p.cs 22 _ rfl
          have d22 := HYP1.out.p.cs 22 _ rfl
          have c23 := HXP1.out.p.cs 23 _ rfl
          have d23 := HYP1.out.p.cs 23 _ rfl
          have c24 := HXP1.out.p.cs 24 _ rfl
          have d24 := HYP1.out.p.cs 24 _ rfl
          have c25 := HXP1.out.p.cs 25 _ rfl
          have d25 := HYP1.out.p.cs 25 _ rfl
          have c26 := HXP1.out.p.cs 26 _ rfl
          have d26 := HYP1.out.p.cs 26 _ rfl
          have c27 := HXP1.out.p.cs 27 _ rfl
          have d27 := HYP1.out.p.cs 27 _ rfl
          have c28 := HXP1.out.p.cs 28 _ rfl
          have d28 := HYP1.out.p.cs 28 _ rfl
          clear b1
          go_wp2_with fail
          go_ret
          exact ⟨ret_bool (by rw [HX.out, e0, e1, e2, e3, e4, e5, e6, e7, e8]; simp), HB1.out⟩
         | true =>
          rw [e8] at h8
          have h9 := cast_beq x.cd y.cd
          cases e9 : (x.cd == y.cd) with
          | false =>
           rw [e9] at h9
           go_enter Tryz.func71, Tryz.ntmps71
           go_upto_region 1 with fail
           simp only [List.append_eq, List.cons_append, List.nil_append]
           go_wp2_with fail
           refine (HBC.out _ HXP.out.ra HYP.out.ra).mono ?_
           rintro r w1 ⟨rfl, b1⟩
           have HB1 := hid (bthen HB0.out b1 (Nat.le_refl _))
           have HXP1 := hid (HXP.out.on b1)
           have HYP1 := hid (HYP.out.on b1)
           have lp := HXP1.out.p.lt
           have lq := HYP1.out.p.lt
           have c15 := HXP1.out.p.cs 15 _ rfl
           have d15 := HYP1.out.p.cs 15 _ rfl
           have c16 := HXP1.out.p.cs 16 _ rfl
           have d16 := HYP1.out.p.cs 16 _ rfl
           have c17 := HXP1.out.p.cs 17 _ rfl
           have d17 := HYP1.out.p.cs 17 _ rfl
           have c18 := HXP1.out.p.cs 18 _ rfl
           have d18 := HYP1.out.p.cs 18 _ rfl
           have c19 := HXP1.out.p.cs 19 _ rfl
           have d19 := HYP1.out.p.cs 19 _ rfl
           have c20 := HXP1.out.p.cs 20 _ rfl
           have d20 := HYP1.out.p.cs 20 _ rfl
           have c21 := HXP1.out.p.cs 21 _ rfl
           have d21 := HYP1.out.p.cs 21 _ rfl
           have c22 := HXP1.out.p.cs 22 _ rfl
           have d22 := HYP1.out.p.cs 22 _ rfl
           have c23 := HXP1.out.p.cs 23 _ rfl
           have d23 := HYP1.out.p.cs 23 _ rfl
           have c24 := HXP1.out.p.cs 24 _ rfl
           have d24 := HYP1.out.p.cs 24 _ rfl
           have c25 := HXP1.out.p.cs 25 _ rfl
           have d25 := HYP1.out.p.cs 25 _ rfl
           have c26 := HXP1.out.p.cs 26 _ rfl
           have d26 := HYP1.out.p.cs 26 _ rfl
           have c27 := HXP1.out.p.cs 27 _ rfl
           have d27 := HYP1.out.p.cs 27 _ rfl
           have c28 := HXP1.out.p.cs 28 _ rfl
           have d28 := HYP1.out.p.cs 28 _ rfl
           clear b1
           go_wp2_with fail
           go_ret
           exact ⟨ret_bool (by rw [HX.out, e0, e1, e2, e3, e4, e5, e6, e7, e8, e9]; simp), HB1.out⟩
          | true =>
           rw [e9] at h9
           have h10 := cast_beq x.num y.num
           cases e10 : (x.num == y.num) with
           | false =>
            rw [e10] at h10
            go_enter Tryz.func71, Tryz.ntmps71
            go_upto_region 1 with fail
            simp only [List.append_eq, List.cons_append, List.nil_append]
            go_wp2_with fail
            refine (HBC.out _ HXP.out.ra HYP.out.ra).mono ?_
            rintro r w1 ⟨rfl, b1⟩
            have HB1 := hid (bthen HB0.out b1 (Nat.le_refl _))
            have HXP1 := hid (HXP.out.on b1)
            have HYP1 := hid (HYP.out.on b1)
            have lp := HXP1.out.p.lt
            have lq := HYP1.out.p.lt
            have c15 := HXP1.out.p.cs 15 _ rfl
            have d15 := HYP1.out.p.cs 15 _ rfl
            have c16 := HXP1.out.p.cs 16 _ rfl
            have d16 := HYP1.out.p.cs 16 _ rfl
            have c17 := HXP1.out.p.cs 17 _ rfl
            have d17 := HYP1.out.p.cs 17 _ rfl
            have c18 := HXP1.out.p.cs 18 _ rfl
            have d18 := HYP1.out.p.cs 18 _ rfl
            have c19 := HXP1.out.p.cs 19 _ rfl
            have d19 := HYP1.out.p.cs 19 _ rfl
            have c20 := HXP1.out.p.cs 20 _ rfl
            have d20 := HYP1.out.p.cs 20 _ rfl
            have c21 := HXP1.out.p.cs 21 _ rfl
            have d21 := HYP1.out.p.cs 21 _ rfl
            have c22 := HXP1.out.p.cs 22 _ rfl
            have d22 := HYP1.out.p.cs 22 _ rfl
            have c23 := HXP1.out.p.cs 23 _ rfl
            have d23 := HYP1.out.p.cs 23 _ rfl
            have c24 := HXP1.out.p.cs 24 _ rfl
            have d24 := HYP1.out.p.cs 24 _ rfl
            have c25 := HXP1.out.p.cs 25 _ rfl
            have d25 := HYP1.out.p.cs 25 _ rfl
            have c26 := HXP1.out.p.cs 26 _ rfl
            have d26 := HYP1.out.p.cs 26 _ rfl
            have c27 := HXP1.out.p.cs 27 _ rfl
            have d27 := HYP1.out.p.cs 27 _ rfl
            have c28 := HXP1.out.p.cs 28 _ rfl
            have d28 := HYP1.out.p.cs 28 _ rfl
            clear b1
            go_wp2_with fail
            go_ret
            exact ⟨ret_bool (by rw [HX.out, e0, e1, e2, e3, e4, e5, e6, e7, e8, e9, e10]; simp), HB1.out⟩
           | true =>
            rw [e10] at h10
            cases e11 : M2 with
            | false =>
             rw [e11] at HMC
             go_enter Tryz.func71, Tryz.ntmps71
             go_upto_region 1 with fail
             simp only [List.append_eq, List.cons_append, List.nil_append]
             go_wp2_with fail
             refine (HBC.out _ HXP.out.ra HYP.out.ra).mono ?_
             rintro r w1 ⟨rfl, b1⟩
             have HB1 := hid (bthen HB0.out b1 (Nat.le_refl _))
             have HXP1 := hid (HXP.out.on b1)
             have HYP1 := hid (HYP.out.on b1)
             have lp := HXP1.out.p.lt
             have lq := HYP1.out.p.lt
             have c15 := HXP1.out.p.cs 15 _ rfl
             have d15 := HYP1.out.p.cs 15 _ rfl
             have c16 := HXP1.out.p.cs 16 _ rfl
             have d16 := HYP1.out.p.cs 16 _ rfl
             have c17 := HXP1.out.p.cs 17 _ rfl
             have d17 := HYP1.out.p.cs 17 _ rfl
             have c18 := HXP1.out.p.cs 18 _ rfl
             have d18 := HYP1.out.p.cs 18 _ rfl
             have c19 := HXP1.out.p.cs 19 _ rfl
             have d19 := HYP1.out.p.cs 19 _ rfl
             have c20 := HXP1.out.p.cs 20 _ rfl
             have d20 := HYP1.out.p.cs 20 _ rfl
             have c21 := HXP1.out.p.cs 21 _ rfl
             have d21 := HYP1.out.p.cs 21 _ rfl
             have c22 := HXP1.out.p.cs 22 _ rfl
             have d22 := HYP1.out.p.cs 22 _ rfl
             have c23 := HXP1.out.p.cs 23 _ rfl
             have d23 := HYP1.out.p.cs 23 _ rfl
             have c24 := HXP1.out.p.cs 24 _ rfl
             have d24 := HYP1.out.p.cs 24 _ rfl
             have c25 := HXP1.out.p.cs 25 _ rfl
             have d25 := HYP1.out.p.cs 25 _ rfl
             have c26 := HXP1.out.p.cs 26 _ rfl
             have d26 := HYP1.out.p.cs 26 _ rfl
             have c27 := HXP1.out.p.cs 27 _ rfl
             have d27 := HYP1.out.p.cs 27 _ rfl
             have c28 := HXP1.out.p.cs 28 _ rfl
             have d28 := HYP1.out.p.cs 28 _ rfl
             clear b1
             go_wp2_with fail
             refine (HMC.out _ HXP1.out.rb HYP1.out.rb).mono ?_
             rintro r w2 ⟨rfl, b2⟩
             have HB2 := hid (bthen HB1.out b2 (Nat.le_refl _))
             have HXP2 := hid (HXP1.out.on b2)
             have HYP2 := hid (HYP1.out.on b2)
             clear lp lq c15 d15 c16 d16 c17 d17 c18 d18 c19 d19 c20 d20 c21 d21 c22 d22 c23 d23 c24 d24 c25 d25 c26 d26 c27 d27 c28 d28
             have lp := HXP2.out.p.lt
             have lq := HYP2.out.p.lt
             have c15 := HXP2.out.p.cs 15 _ rfl
             have d15 := HYP2.out.p.cs 15 _ rfl
             have c16 := HXP2.out.p.cs 16 _ rfl
             have d16 := HYP2.out.p.cs 16 _ rfl
             have c17 := HXP2.out.p.cs 17 _ rfl
             have d17 := HYP2.out.p.cs 17 _ rfl
             have c18 := HXP2.out.p.cs 18 _ rfl
             have d18 := HYP2.out.p.cs 18 _ rfl
             have c19 := HXP2.out.p.cs 19 _ rfl
             have d19 := HYP2.out.p.cs 19 _ rfl
             have c20 := HXP2.out.p.cs 20 _ rfl
             have d20 := HYP2.out.p.cs 20 _ rfl
             have c21 := HXP2.out.p.cs 21 _ rfl
             have d21 := HYP2.out.p.cs 21 _ rfl
             have c22 := HXP2.out.p.cs 22 _ rfl
             have d22 := HYP2.out.p.cs 22 _ rfl
             have c23 := HXP2.out.p.cs 23 _ rfl
             have d23 := HYP2.out.p.cs 23 _ rfl
             have c24 := HXP2.out.p.cs 24 _ rfl
             have d24 := HYP2.out.p.cs 24 _ rfl
             have c25 := HXP2.out.p.cs 25 _ rfl
             have d25 := HYP2.out.p.cs 25 _ rfl
             have c26 := HXP2.out.p.cs 26 _ rfl
             have d26 := HYP2.out.p.cs 26 _ rfl
             have c27 := HXP2.out.p.cs 27 _ rfl
             have d27 := HYP2.out.p.cs 27 _ rfl
             have c28 := HXP2.out.p.cs 28 _ rfl
             have d28 := HYP2.out.p.cs 28 _ rfl
             clear b2
             go_wp2_with fail
             go_ret
             exact ⟨ret_bool (by rw [HX.out, e0, e1, e2, e3, e4, e5, e6, e7, e8, e9, e10, e11]; simp), HB2.out⟩
            | true =>
             rw [e11] at HMC
             have h12 := str_same x.text y.text
             cases e12 : (x.text == y.text) with
             | false =>
              rw [e12] at h12
              go_enter Tryz.func71, Tryz.ntmps71
              go_upto_region 1 with fail
              simp only [List.append_eq, List.cons_append, List.nil_append]
              go_wp2_with fail
              refine (HBC.out _ HXP.out.ra HYP.out.ra).mono ?_
              rintro r w1 ⟨rfl, b1⟩
              have HB1 := hid (bthen HB0.out b1 (Nat.le_refl _))
              have HXP1 := hid (HXP.out.on b1)
              have HYP1 := hid (HYP.out.on b1)
              have lp := HXP1.out.p.lt
              have lq := HYP1.out.p.lt
              have c15 := HXP1.out.p.cs 15 _ rfl
              have d15 := HYP1.out.p.cs 15 _ rfl
              have c16 := HXP1.out.p.cs 16 _ rfl
              have d16 := HYP1.out.p.cs 16 _ rfl
              have c17 := HXP1.out.p.cs 17 _ rfl
              have d17 := HYP1.out.p.cs 17 _ rfl
              have c18 := HXP1.out.p.cs 18 _ rfl
              have d18 := HYP1.out.p.cs 18 _ rfl
              have c19 := HXP1.out.p.cs 19 _ rfl
              have d19 := HYP1.out.p.cs 19 _ rfl
              have c20 := HXP1.out.p.cs 20 _ rfl
              have d20 := HYP1.out.p.cs 20 _ rfl
              have c21 := HXP1.out.p.cs 21 _ rfl
              have d21 := HYP1.out.p.cs 21 _ rfl
              have c22 := HXP1.out.p.cs 22 _ rfl
              have d22 := HYP1.out.p.cs 22 _ rfl
              have c23 := HXP1.out.p.cs 23 _ rfl
              have d23 := HYP1.out.p.cs 23 _ rfl
              have c24 := HXP1.out.p.cs 24 _ rfl
              have d24 := HYP1.out.p.cs 24 _ rfl
              have c25 := HXP1.out.p.cs 25 _ rfl
              have d25 := HYP1.out.p.cs 25 _ rfl
              have c26 := HXP1.out.p.cs 26 _ rfl
              have d26 := HYP1.out.p.cs 26 _ rfl
              have c27 := HXP1.out.p.cs 27 _ rfl
              have d27 := HYP1.out.p.cs 27 _ rfl
              have c28 := HXP1.out.p.cs 28 _ rfl
              have d28 := HYP1.out.p.cs 28 _ rfl
              clear b1
              go_wp2_with fail
              refine (HMC.out _ HXP1.out.rb HYP1.out.rb).mono ?_
              rintro r w2 ⟨rfl, b2⟩
              have HB2 := hid (bthen HB1.out b2 (Nat.le_refl _))
              have HXP2 := hid (HXP1.out.on b2)
              have HYP2 := hid (HYP1.out.on b2)
              clear lp lq c15 d15 c16 d16 c17 d17 c18 d18 c19 d19 c20 d20 c21 d21 c22 d22 c23 d23 c24 d24 c25 d25 c26 d26 c27 d27 c28 d28
              have lp := HXP2.out.p.lt
              have lq := HYP2.out.p.lt
              have c15 := HXP2.out.p.cs 15 _ rfl
              have d15 := HYP2.out.p.cs 15 _ rfl
              have c16 := HXP2.out.p.cs 16 _ rfl
              have d16 := HYP2.out.p.cs 16 _ rfl
              have c17 := HXP2.out.p.cs 17 _ rfl
              have d17 := HYP2.out.p.cs 17 _ rfl
              have c18 := HXP2.out.p.cs 18 _ rfl
              have d18 := HYP2.out.p.cs 18 _ rfl
              have c19 := HXP2.out.p.cs 19 _ rfl
              have d19 := HYP2.out.p.cs 19 _ rfl
              have c20 := HXP2.out.p.cs 20 _ rfl
              have d20 := HYP2.out.p.cs 20 _ rfl
              have c21 := HXP2.out.p.cs 21 _ rfl
              have d21 := HYP2.out.p.cs 21 _ rfl
              have c22 := HXP2.out.p.cs 22 _ rfl
              have d22 := HYP2.out.p.cs 22 _ rfl
              have c23 := HXP2.out.p.cs 23 _ rfl
              have d23 := HYP2.out.p.cs 23 _ rfl
              have c24 := HXP2.out.p.cs 24 _ rfl
              have d24 := HYP2.out.p.cs 24 _ rfl
              have c25 := HXP2.out.p.cs 25 _ rfl
              have d25 := HYP2.out.p.cs 25 _ rfl
              have c26 := HXP2.out.p.cs 26 _ rfl
              have d26 := HYP2.out.p.cs 26 _ rfl
              have c27 := HXP2.out.p.cs 27 _ rfl
              have d27 := HYP2.out.p.cs 27 _ rfl
              have c28 := HXP2.out.p.cs 28 _ rfl
              have d28 := HYP2.out.p.cs 28 _ rfl
              clear b2
              go_wp2_with fail
              go_ret
              exact ⟨ret_bool (by rw [HX.out, e0, e1, e2, e3, e4, e5, e6, e7, e8, e9, e10, e11, e12]; simp), HB2.out⟩
             | true =>
              rw [e12] at h12
              go_enter Tryz.func71, Tryz.ntmps71
              go_upto_region 1 with fail
              simp only [List.append_eq, List.cons_append, List.nil_append]
              go_wp2_with fail
              refine (HBC.out _ HXP.out.ra HYP.out.ra).mono ?_
              rintro r w1 ⟨rfl, b1⟩
              have HB1 := hid (bthen HB0.out b1 (Nat.le_refl _))
              have HXP1 := hid (HXP.out.on b1)
              have HYP1 := hid (HYP.out.on b1)
              have lp := HXP1.out.p.lt
              have lq := HYP1.out.p.lt
              have c15 := HXP1.out.p.cs 15 _ rfl
              have d15 := HYP1.out.p.cs 15 _ rfl
              have c16 := HXP1.out.p.cs 16 _ rfl
              have d16 := HYP1.out.p.cs 16 _ rfl
              have c17 := HXP1.out.p.cs 17 _ rfl
              have d17 := HYP1.out.p.cs 17 _ rfl
              have c18 := HXP1.out.p.cs 18 _ rfl
              have d18 := HYP1.out.p.cs 18 _ rfl
              have c19 := HXP1.out.p.cs 19 _ rfl
              have d19 := HYP1.out.p.cs 19 _ rfl
              have c20 := HXP1.out.p.cs 20 _ rfl
              have d20 := HYP1.out.p.cs 20 _ rfl
              have c21 := HXP1.out.p.cs 21 _ rfl
              have d21 := HYP1.out.p.cs 21 _ rfl
              have c22 := HXP1.out.p.cs 22 _ rfl
              have d22 := HYP1.out.p.cs 22 _ rfl
              have c23 := HXP1.out.p.cs 23 _ rfl
              have d23 := HYP1.out.p.cs 23 _ rfl
              have c24 := HXP1.out.p.cs 24 _ rfl
              have d24 := HYP1.out.p.cs 24 _ rfl
              have c25 := HXP1.out.p.cs 25 _ rfl
              have d25 := HYP1.out.p.cs 25 _ rfl
              have c26 := HXP1.out.p.cs 26 _ rfl
              have d26 := HYP1.out.p.cs 26 _ rfl
              have c27 := HXP1.out.p.cs 27 _ rfl
              have d27 := HYP1.out.p.cs 27 _ rfl
              have c28 := HXP1.out.p.cs 28 _ rfl
              have d28 := HYP1.out.p.cs 28 _ rfl
              clear b1
              go_wp2_with fail
              refine (HMC.out _ HXP1.out.rb HYP1.out.rb).mono ?_
              rintro r w2 ⟨rfl, b2⟩
              have HB2 := hid (bthen HB1.out b2 (Nat.le_refl _))
              have HXP2 := hid (HXP1.out.on b2)
              have HYP2 := hid (HYP1.out.on b2)
              clear lp lq c15 d15 c16 d16 c17 d17 c18 d18 c19 d19 c20 d20 c21 d21 c22 d22 c23 d23 c24 d24 c25 d25 c26 d26 c27 d27 c28 d28
              have lp := HXP2.out.p.lt
              have lq := HYP2.out.p.lt
              have c15 := HXP2.out.p.cs 15 _ rfl
              have d15 := HYP2.out.p.cs 15 _ rfl
              have c16 := HXP2.out.p.cs 16 _ rfl
              have d16 := HYP2.out.p.cs 16 _ rfl
              have c17 := HXP2.out.p.cs 17 _ rfl
              have d17 := HYP2.out.p.cs 17 _ rfl
              have c18 := HXP2.out.p.cs 18 _ rfl
              have d18 := HYP2.out.p.cs 18 _ rfl
              have c19 := HXP2.out.p.cs 19 _ rfl
              have d19 := HYP2.out.p.cs 19 _ rfl
              have c20 := HXP2.out.p.cs 20 _ rfl
              have d20 := HYP2.out.p.cs 20 _ rfl
              have c21 := HXP2.out.p.cs 21 _ rfl
              have d21 := HYP2.out.p.cs 21 _ rfl
              have c22 := HXP2.out.p.cs 22 _ rfl
              have d22 := HYP2.out.p.cs 22 _ rfl
              have c23 := HXP2.out.p.cs 23 _ rfl
              have d23 := HYP2.out.p.cs 23 _ rfl
              have c24 := HXP2.out.p.cs 24 _ rfl
              have d24 := HYP2.out.p.cs 24 _ rfl
              have c25 := HXP2.out.p.cs 25 _ rfl
              have d25 := HYP2.out.p.cs 25 _ rfl
              have c26 := HXP2.out.p.cs 26 _ rfl
              have d26 := HYP2.out.p.cs 26 _ rfl
              have c27 := HXP2.out.p.cs 27 _ rfl
              have d27 := HYP2.out.p.cs 27 _ rfl
              have c28 := HXP2.out.p.cs 28 _ rfl
              have d28 := HYP2.out.p.cs 28 _ rfl
              clear b2
              go_wp2_with fail
              go_ret
              exact ⟨ret_bool (by rw [HX.out, e0, e1, e2, e3, e4, e5, e6, e7, e8, e9, e10, e11, e12]; simp), HB2.out⟩
theorem ddSame_any (x y : De) (A : Option Addr) (c : Nat) (B : Option Addr) (d : Nat) (C : Option Addr) (e : Nat) (D : Option Addr) (f : Nat) (w : World) (hl : x.bind.want.length ≤ 100000) (hm : y.bind.want.length ≤ 100000) (hn : x.mail.head.length ≤ 100000) (ho : y.mail.head.length ≤ 100000) (hA : Prs w A x.bind.want) (hB : Prs w B x.mail.head) (hC : Prs w C y.bind.want) (hD : Prs w D y.mail.head) :
  Calls Tryz.prog 71 #[deV x A c B d, deV y C e D f] w fun r w' => r = .returned (.bool (decide (x = y))) ∧ Below w.heap.size w w' := by
 have h := ddSame_any0 x y A c B d C e D f w hl hm hn ho hA hB hC hD
 rwa [deEq_dec] at h
end Go.Proofs.YtaikigponkjkgaaGreatDoor
end
