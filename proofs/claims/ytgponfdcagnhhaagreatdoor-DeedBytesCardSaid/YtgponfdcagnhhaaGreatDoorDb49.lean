/-
  THE LAW DeedBytes, walked.
-/
import Derived.Test.YtgponfdcagnhhaaGreatDoorDb32
import Derived.Test.YtgponfdcagnhhaaGreatDoorDb35
import Derived.Test.YtgponfdcagnhhaaGreatDoorDb43
import Derived.Test.YtgponfdcagnhhaaGreatDoorDb46
import Derived.Test.YtgponfdcagnhhaaGreatDoorDb48
import Derived.BigFrame
section
namespace Go.Proofs.YtgponfdcagnhhaaGreatDoor
open Go.ChangeShapes Go.WideShapes Go.ChangeAt Go.RowKit
theorem deOk_to {w w' : World} {x : De} {A : Option Addr} {c : Nat} {B : Option Addr} {d : Nat} (h : DeOk w x A c B d) (hb : Below w.heap.size w w') {A' : Option Addr} {c' : Nat} (hp : Prs w' A' x.bind.want) (hc : x.bind.want.length ≤ c') : DeOk w' x A' c' B d :=
  ⟨h.sn, h.st, h.qn, h.qd, ⟨h.bind.shop, h.bind.tol, h.bind.key, h.bind.len, hc, h.bind.lite, hp⟩, h.name, h.mail.on hb, h.text⟩
theorem wpList_store_newD {P : Program} {ops : Array Oper} {rest : List Oper} {op : Oper} {a : Act} {w : World} {Q : Exit → Act → World → Prop} (hgd : op.guard = none) (ty : TypeId) (x y : Operand) (ho : op.op = .store ty x y)
    (c c' : Array Value) (hx : a.eval x = .pointer (some ⟨w.heap.size, 0, none⟩)) (hy : a.eval y = .agg c') (hi : (P.info? ty).map (·.size) = some c'.size) (hcc : c.size = c'.size) (h1 : c'.all (·.oneCell') = true)
    (h : wpList P ops Q rest (a.put op.dst undef) (w.alloc (.cells c' ty))) : wpList P ops Q (op :: rest) a (w.alloc (.cells c ty)) := wpList_store_new2 hgd ty x y ho c c' hx hy hi hcc h1 h
set_option maxRecDepth 100000 in
set_option maxHeartbeats 16000000 in
theorem deedBytes_walk (x : De) (A : Option Addr) (c : Nat) (B : Option Addr) (d : Nat) (w : World) (hx : DeIn w x A c B d) (hL : Len w) :
    Calls Tryz.prog 3 #[deV x A c B d] w fun r w' => r = .returned (.bool true) ∧ Below w.heap.size w w' := by
  have HB1 := Lib.hid (rtOne w (.cells #[.int .u8 (x.kd : Int), .int .u64 (x.tick : Int), .string (ofL x.shop.name), .int .u8 (x.shop.sort : Int), .string (ofL x.shop.to), .string (ofL x.q.name), .int .u64 (x.q.most : Int), .int .u64 (x.q.life : Int), .string (ofL x.q.dead), .string (ofL x.bind.shop), .string (ofL x.bind.to), .bool x.bind.up, .string (ofL x.bind.key), .slice A x.bind.want.length c, .bool x.bind.all, .string (ofL x.name), .int .u64 (x.id : Int), .int .u8 (x.how : Int), .int .u8 (x.frm : Int), .int .u8 (x.cd : Int), .int .u64 (x.num : Int), .int .u64 (x.mail.id : Int), .string (ofL x.mail.shop), .string (ofL x.mail.key), .slice B x.mail.head.length d, .string (ofL x.mail.body), .int .u64 (x.mail.due : Int), .int .u8 (x.mail.hops : Int), .string (ofL x.text)] 33))
  have HX1 := Lib.hid (DeX.start w x A c B d hx.ra hx.rb 33)
  have HIX := Lib.hid hx
  have HL0 := Lib.hid hL
  have HLX := Lib.hid (fun W g => ddLight_any x A c B d W g)
  clear hx hL
  simp only [deV]
  go_enter Tryz.func3, Tryz.ntmps3
  go_upto_region 1 with fail
  generalize w.alloc (.cells #[.int .u8 (x.kd : Int), .int .u64 (x.tick : Int), .string (ofL x.shop.name), .int .u8 (x.shop.sort : Int), .string (ofL x.shop.to), .string (ofL x.q.name), .int .u64 (x.q.most : Int), .int .u64 (x.q.life : Int), .string (ofL x.q.dead), .string (ofL x.bind.shop), .string (ofL x.bind.to), .bool x.bind.up, .string (ofL x.bind.key), .slice A x.bind.want.length c, .bool x.bind.all, .string (ofL x.name), .int .u64 (x.id : Int), .int .u8 (x.how : Int), .int .u8 (x.frm : Int), .int .u8 (x.cd : Int), .int .u64 (x.num : Int), .int .u64 (x.mail.id : Int), .string (ofL x.mail.shop), .string (ofL x.mail.key), .slice B x.mail.head.length d, .string (ofL x.mail.body), .int .u64 (x.mail.due : Int), .int .u8 (x.mail.hops : Int), .string (ofL x.text)] 33) = W1 at *
  go_wp2_with fail
  refine (law22awake_any _ (HL0.out.on HB1.out)).mono ?_
  rintro r w3 ⟨rfl, b3⟩
  have HB3 := Lib.hid (bthen HB1.out b3 (Nat.le_refl _))
  have HX3 := Lib.hid (HX1.out.on b3)
  clear b3 HX1 HB1
  cases hlx : deLight x with
  | false =>
    rw [hlx] at HLX
    go_wp2_with (refine wpList_load_mid (by rfl) 33 _ (by rfl) w.heap.size 0 (by rfl) (deL x A c B d) _ HX3.out.p.cs.range Tryz.underlying33 rfl (by rw [de_size, deL_len]) ?_)
    refine (HLX.out _ (HIX.out.on HB3.out)).mono ?_
    rintro r w4 ⟨rfl, b4⟩
    have HB4 := Lib.hid (bthen HB3.out b4 (Nat.le_refl _))
    clear b4
    go_wp2_with fail
    go_ret
    exact ⟨rfl, HB4.out⟩
  | true =>
    rw [hlx] at HLX
    have HOX := Lib.hid (de_light_Ok hlx HIX.out)
    go_wp2_with (refine wpList_load_mid (by rfl) 33 _ (by rfl) w.heap.size 0 (by rfl) (deL x A c B d) _ HX3.out.p.cs.range Tryz.underlying33 rfl (by rw [de_size, deL_len]) ?_)
    refine (HLX.out _ (HIX.out.on HB3.out)).mono ?_
    rintro r w4 ⟨rfl, b4⟩
    have HB4 := Lib.hid (bthen HB3.out b4 (Nat.le_refl _))
    have HX4 := Lib.hid (HX3.out.on b4)
    clear b4 HX3 HB3 hlx
    go_wp2_with (refine wpList_load_mid (by rfl) 33 _ (by rfl) w.heap.size 0 (by rfl) (deL x A c B d) _ HX4.out.p.cs.range Tryz.underlying33 rfl (by rw [de_size, deL_len]) ?_)
    refine (to22_any x A c B d _ HOX.out.bind.len HOX.out.bind.cap HX4.out.ra).mono ?_
    rintro r w5 ⟨A5, c5, rfl, hp5, hc5, b5⟩
    have HB5 := Lib.hid (bthen HB4.out b5 (Nat.le_refl _))
    have HX5 := Lib.hid (HX4.out.on b5)
    have HO5 := Lib.hid (deOk_to HOX.out HB5.out hp5 hc5)
    clear hp5 hc5 b5 HX4 HB4
    have HB6 := Lib.hid (bthen HB5.out (rtOne w5 (.cells (deL x A5 c5 B d).toArray 40)) (Nat.le_refl _))
    have HX6 := Lib.hid (HX5.out.on (rtOne w5 (.cells (deL x A5 c5 B d).toArray 40)))
    have HQ6 := Lib.hid (BoxC.new (w := w) (W := w5) HB5.out.size (deL x A5 c5 B d).toArray 40)
    have HO6 := Lib.hid (HO5.out.on (rtOne w5 (.cells (deL x A5 c5 B d).toArray 40)))
    clear HX5 HB5 HO5
    go_upto_region 6 with (refine wpList_store_newD (by rfl) 40 _ _ (by rfl) _ (deL x A5 c5 B d).toArray (by rfl) (by rfl) (by rw [rde_size]; rfl) (by rfl) (de_all _ _ _ _ _) ?_)
    generalize w5.alloc (.cells (deL x A5 c5 B d).toArray 40) = w6 at *
    generalize w5.heap.size = g at *
    have HK := Lib.hid (fun W g1 => r22Check_any x A5 c5 B d W g1)
    have HKP := Lib.hid (fun W g1 l1 => ddCheck_any x A c B d W g1 l1)
    have HBY := Lib.hid (fun W g1 l1 => ddBytes_any x A c B d W g1 HIX.out.fits l1)
    go_wp2_with (refine wpList_load_mid (by rfl) 40 _ (by rfl) g 0 (by rfl) (deL x A5 c5 B d) _ HQ6.out.cs.range Tryz.underlying40 rfl (by rw [rde_size, deL_len]) ?_)
    refine (HK.out _ HO6.out).mono ?_
    rintro r w7 ⟨rfl, b7⟩
    have HB7 := Lib.hid (bthen HB6.out b7 (Nat.le_refl _))
    have HX7 := Lib.hid (HX6.out.on b7)
    have HQ7 := Lib.hid (HQ6.out.on b7)
    have HO7 := Lib.hid (HO6.out.on b7)
    clear b7 HX6 HB6 HQ6 HO6
    by_cases h0 : x.code = 0
    · have HRB := Lib.hid (fun W g1 g2 => r22Bytes_any x A5 c5 B d W g1 g2 HIX.out.fits h0)
      rw [show deBytesV x = .tuple #[.string (ofL x.enc), .int .i64 0] by unfold deBytesV; rw [if_pos h0]] at HBY
      rw [h0] at HKP
      simp only [h0]
      clear h0
      generalize ofL x.enc = E at *
      go_wp2_with (refine wpList_load_mid (by rfl) 33 _ (by rfl) w.heap.size 0 (by rfl) (deL x A c B d) _ HX7.out.p.cs.range Tryz.underlying33 rfl (by rw [de_size, deL_len]) ?_)
      refine (HBY.out _ (HOX.out.on HB7.out) (HL0.out.on HB7.out)).mono ?_
      rintro r w8 ⟨rfl, b8⟩
      have HB8 := Lib.hid (bthen HB7.out b8 (Nat.le_refl _))
      have HX8 := Lib.hid (HX7.out.on b8)
      have HQ8 := Lib.hid (HQ7.out.on b8)
      have HO8 := Lib.hid (HO7.out.on b8)
      clear b8
      go_wp2_with (refine wpList_load_mid (by rfl) 33 _ (by rfl) w.heap.size 0 (by rfl) (deL x A c B d) _ HX8.out.p.cs.range Tryz.underlying33 rfl (by rw [de_size, deL_len]) ?_)
      refine (HKP.out _ (HOX.out.on HB8.out) (HL0.out.on HB8.out)).mono ?_
      rintro r w9 ⟨rfl, b9⟩
      have HB9 := Lib.hid (bthen HB8.out b9 (Nat.le_refl _))
      have HQ9 := Lib.hid (HQ8.out.on b9)
      have HO9 := Lib.hid (HO8.out.on b9)
      clear b9
      go_wp2_with (refine wpList_load_mid (by rfl) 40 _ (by rfl) g 0 (by rfl) (deL x A5 c5 B d) _ HQ9.out.cs.range Tryz.underlying40 rfl (by rw [rde_size, deL_len]) ?_)
      refine (HRB.out _ HO9.out.bind.row HO9.out.mail.row).mono ?_
      rintro r w10 ⟨rfl, b10⟩
      have HB10 := Lib.hid (bthen HB9.out b10 (Nat.le_refl _))
      clear b10
      go_wp2_with fail
      go_ret
      exact ⟨rfl, HB10.out⟩
    · rw [show deBytesV x = .tuple #[.string ⟨#[]⟩, .int .i64 (x.code : Int)] by unfold deBytesV; rw [if_neg h0]] at HBY
      have hz : ((x.code : Int) != 0) = true := by rw [bne_iff_ne]; omega
      have hzz : ((x.code : Int) != (x.code : Int)) = false := by simp
      clear h0
      generalize x.code = K at *
      go_wp2_with (refine wpList_load_mid (by rfl) 33 _ (by rfl) w.heap.size 0 (by rfl) (deL x A c B d) _ HX7.out.p.cs.range Tryz.underlying33 rfl (by rw [de_size, deL_len]) ?_)
      refine (HBY.out _ (HOX.out.on HB7.out) (HL0.out.on HB7.out)).mono ?_
      rintro r w8 ⟨rfl, b8⟩
      have HB8 := Lib.hid (bthen HB7.out b8 (Nat.le_refl _))
      have HX8 := Lib.hid (HX7.out.on b8)
      clear b8
      go_wp2_with (refine wpList_load_mid (by rfl) 33 _ (by rfl) w.heap.size 0 (by rfl) (deL x A c B d) _ HX8.out.p.cs.range Tryz.underlying33 rfl (by rw [de_size, deL_len]) ?_)
      refine (HKP.out _ (HOX.out.on HB8.out) (HL0.out.on HB8.out)).mono ?_
      rintro r w9 ⟨rfl, b9⟩
      have HB9 := Lib.hid (bthen HB8.out b9 (Nat.le_refl _))
      clear b9
      go_wp2_with fail
      go_ret
      exact ⟨rfl, HB9.out⟩
end Go.Proofs.YtgponfdcagnhhaaGreatDoor
end
