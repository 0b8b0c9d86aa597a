/-
  A MESSAGE's COPY; THE CHAPTER's EXAMPLE: walked. WHETHER TWO MESSAGES ARE THE SAME: walked. WHETHER TWO MESSAGES ARE THE SAME, as a decision. DEEDS IN MEMORY. WHOLE STRUCTS in a block of one's own: loaded, stored; deeds among them.
-/
import Derived.Test.YtgaggelpjaiabaaGreatDoorSp04
import Derived.Test.YtgaggelpjaiabaaGreatDoorSp05
import Derived.Test.YtgaggelpjaiabaaGreatDoorSp14
import Derived.Test.YtgaggelpjaiabaaGreatDoorSp15
import Derived.Test.YtgaggelpjaiabaaGreatDoorSp16
import Derived.Test.YtgaggelpjaiabaaGreatDoorSp17
import Derived.Deep.MidRow
import Derived.Deep.WholeRow
import Derived.Lib.BufferRead
section
namespace Go.Proofs.YtgaggelpjaiabaaGreatDoor
open Go.ChangeShapes Go.WideShapes Go.ChangeAt Go.RowKit
/-- the chapter's example -/
def exMl : Ml := ⟨0, [97], [], [], [], 0, 0⟩
theorem exMl_code : exMl.code = 0 := by decide
theorem exMl_len : exMl.enc.length = 25 := by decide
theorem ex13_bytes (w : World) (hL : Len w) : Calls Tryz.prog 203 #[.agg #[.int .u64 0, .string ⟨#[97]⟩, .string ⟨#[]⟩, .slice none 0 0, .string ⟨#[]⟩, .int .u64 0, .int .u8 0]] w fun e w' => e = .returned (.tuple #[.string (ofL exMl.enc), .int .i64 0]) ∧ Below w.heap.size w w' := by
  have h := maBytes_any exMl none 0 w ⟨by decide, by decide, by decide, by decide, by decide, lite_nil, Prs.nil _ _⟩ ⟨by decide, by decide, by decide, fun p hp => absurd hp (by simp [exMl])⟩ hL
  rw [show maBytesV exMl = .tuple #[.string (ofL exMl.enc), .int .i64 0] by unfold maBytesV; rw [if_pos exMl_code]] at h
  exact h
theorem ml_law9Awake (w : World) (hL : Len w) : Calls Tryz.prog 70 #[] w fun e w' => e = .returned (.bool true) ∧ Below w.heap.size w w' := by
  have HA := Lib.hid (awake9_any w hL)
  go_enter Tryz.func70, Tryz.ntmps70
  go_wp2_with fail
  refine HA.out.mono ?_
  rintro x w1 ⟨rfl, b1⟩
  have B1 := Lib.hid b1
  clear b1
  go_wp2_with fail
  go_ret
  exact ⟨rfl, B1.out⟩
set_option maxHeartbeats 1000000 in
theorem awake13_any (w : World) (hL : Len w) : Calls Tryz.prog 191 #[] w fun e w' => e = .returned (.bool true) ∧ Below w.heap.size w w' := by
  have HL := Lib.hid hL
  have HX := Lib.hid (ex13_bytes w hL)
  have hz : (ofL exMl.enc).size = 25 := by rw [ofL_size, exMl_len]
  clear hL
  generalize ofL exMl.enc = E at *
  go_enter Tryz.func191, Tryz.ntmps191
  go_wp2_with fail
  refine HX.out.mono ?_
  rintro e w1 ⟨rfl, b1⟩
  have HL1 := Lib.hid (HL.out.on b1)
  have HB1 := Lib.hid b1
  clear b1
  go_wp2_with fail
  refine (ml_law9Awake _ HL1.out).mono ?_
  rintro e w2 ⟨rfl, b2⟩
  have HB2 := Lib.hid (bthen HB1.out b2 (Nat.le_refl _))
  clear b2
  go_wp2_with fail
  go_ret
  exact ⟨rfl, HB2.out⟩
end Go.Proofs.YtgaggelpjaiabaaGreatDoor
end
section
namespace Go.Proofs.YtgaggelpjaiabaaGreatDoor
open Go.ChangeShapes Go.WideShapes Go.ChangeAt Go.RowKit
def maEq (x y : Ml) : Bool := (x.id == y.id) && (x.shop == y.shop) && (x.key == y.key) && decide (x.head = y.head) && (x.body == y.body) && (x.due == y.due) && (x.hops == y.hops)
set_option maxRecDepth 100000 in
set_option maxHeartbeats 8000000 in
theorem ml_Same_any (x y : Ml) (A : Option Addr) (c : Nat) (B : Option Addr) (d : Nat) (w : World) (hl : x.head.length ≤ 100000) (hm : y.head.length ≤ 100000) (hA : Prs w A x.head) (hB : Prs w B y.head) :
    Calls Tryz.prog 209 #[maV x A c, maV y B d] w fun e w' => e = .returned (.bool (maEq x y)) ∧ Below w.heap.size w w' := by
  have HB0 := Lib.hid (show Below w.heap.size w ((w.alloc (.cells #[.int .u64 (x.id : Int), .string (ofL x.shop), .string (ofL x.key), .slice A x.head.length c, .string (ofL x.body), .int .u64 (x.due : Int), .int .u8 (x.hops : Int)] 62)).alloc (.cells #[.int .u64 (y.id : Int), .string (ofL y.shop), .string (ofL y.key), .slice B y.head.length d, .string (ofL y.body), .int .u64 (y.due : Int), .int .u8 (y.hops : Int)] 62)) from ((Below.refl _ _).alloc (Nat.le_refl _) _).alloc (by simp) _)
  have HXP := Lib.hid (show Cels ((w.alloc (.cells #[.int .u64 (x.id : Int), .string (ofL x.shop), .string (ofL x.key), .slice A x.head.length c, .string (ofL x.body), .int .u64 (x.due : Int), .int .u8 (x.hops : Int)] 62)).alloc (.cells #[.int .u64 (y.id : Int), .string (ofL y.shop), .string (ofL y.key), .slice B y.head.length d, .string (ofL y.body), .int .u64 (y.due : Int), .int .u8 (y.hops : Int)] 62)) w.heap.size [.int .u64 (x.id : Int), .string (ofL x.shop), .string (ofL x.key), .slice A x.head.length c, .string (ofL x.body), .int .u64 (x.due : Int), .int .u8 (x.hops : Int)] from (Cels.new w #[.int .u64 (x.id : Int), .string (ofL x.shop), .string (ofL x.key), .slice A x.head.length c, .string (ofL x.body), .int .u64 (x.due : Int), .int .u8 (x.hops : Int)] 62).on ((Below.refl _ _).alloc (Nat.le_refl _) _) (by simp))
  have HYP := Lib.hid (show Cels ((w.alloc (.cells #[.int .u64 (x.id : Int), .string (ofL x.shop), .string (ofL x.key), .slice A x.head.length c, .string (ofL x.body), .int .u64 (x.due : Int), .int .u8 (x.hops : Int)] 62)).alloc (.cells #[.int .u64 (y.id : Int), .string (ofL y.shop), .string (ofL y.key), .slice B y.head.length d, .string (ofL y.body), .int .u64 (y.due : Int), .int .u8 (y.hops : Int)] 62)) (w.heap.size + 1) [.int .u64 (y.id : Int), .string (ofL y.shop), .string (ofL y.key), .slice B y.head.length d, .string (ofL y.body), .int .u64 (y.due : Int), .int .u8 (y.hops : Int)] by
    have := Cels.new (w.alloc (.cells #[.int .u64 (x.id : Int), .string (ofL x.shop), .string (ofL x.key), .slice A x.head.length c, .string (ofL x.body), .int .u64 (x.due : Int), .int .u8 (x.hops : Int)] 62)) #[.int .u64 (y.id : Int), .string (ofL y.shop), .string (ofL y.key), .slice B y.head.length d, .string (ofL y.body), .int .u64 (y.due : Int), .int .u8 (y.hops : Int)] 62
    simpa using this)
  have HPA := Lib.hid (hA.on HB0.out)
  have HPB := Lib.hid (hB.on HB0.out)
  have HW := Lib.hid (fun W h1 h2 => hsame_any x.head y.head A c B d W hl hm h1 h2)
  have HX : Hid (maEq x y = ((x.id == y.id) && (x.shop == y.shop) && (x.key == y.key) && decide (x.head = y.head) && (x.body == y.body) && (x.due == y.due) && (x.hops == y.hops))) := rfl
  clear hA hB
  generalize maEq x y = SB at *
  simp only [maV] at *
  generalize decide (x.head = y.head) = M at *
  have h0 := cast_beq x.id y.id
  cases e0 : (x.id == y.id) with
  | false =>
    rw [e0] at h0
    go_enter Tryz.func209, Tryz.ntmps209
    go_wp2_with fail
    go_ret
    exact ⟨ret_bool (by rw [HX.out, e0]; simp), HB0.out⟩
  | true =>
    rw [e0] at h0
    have h1 := str_same x.shop y.shop
    cases e1 : (x.shop == y.shop) with
    | false =>
      rw [e1] at h1
      go_enter Tryz.func209, Tryz.ntmps209
      go_wp2_with fail
      go_ret
      exact ⟨ret_bool (by rw [HX.out, e0, e1]; simp), HB0.out⟩
    | true =>
      rw [e1] at h1
      have h2 := str_same x.key y.key
      cases e2 : (x.key == y.key) with
      | false =>
        rw [e2] at h2
        go_enter Tryz.func209, Tryz.ntmps209
        go_wp2_with fail
        go_ret
        exact ⟨ret_bool (by rw [HX.out, e0, e1, e2]; simp), HB0.out⟩
      | true =>
        rw [e2] at h2
        cases e3 : M with
        | false =>
          rw [e3] at HW
          go_enter Tryz.func209, Tryz.ntmps209
          go_wp2_with fail
          refine (HW.out _ HPA.out HPB.out).mono ?_
          rintro e w1 ⟨rfl, b1⟩
          have HB1 := Lib.hid (bthen HB0.out b1 (Nat.le_refl _))
          have HXP1 := Lib.hid (HXP.out.on b1 (by simp; omega))
          have HYP1 := Lib.hid (HYP.out.on b1 (by simp))
          have lq : w.heap.size + 1 < w1.heap.size := by have := b1.size; simp at this; omega
          have lp : w.heap.size < w1.heap.size := by omega
          have c0 := HXP1.out 0 _ rfl
          have d0 := HYP1.out 0 _ rfl
          have c1 := HXP1.out 1 _ rfl
          have d1 := HYP1.out 1 _ rfl
          have c2 := HXP1.out 2 _ rfl
          have d2 := HYP1.out 2 _ rfl
          have c3 := HXP1.out 3 _ rfl
          have d3 := HYP1.out 3 _ rfl
          have c4 := HXP1.out 4 _ rfl
          have d4 := HYP1.out 4 _ rfl
          have c5 := HXP1.out 5 _ rfl
          have d5 := HYP1.out 5 _ rfl
          have c6 := HXP1.out 6 _ rfl
          have d6 := HYP1.out 6 _ rfl
          clear b1
          go_wp2_with fail
          go_ret
          exact ⟨ret_bool (by rw [HX.out, e0, e1, e2, e3]; simp), HB1.out⟩
        | true =>
          rw [e3] at HW
          have h4 := str_same x.body y.body
          cases e4 : (x.body == y.body) with
          | false =>
            rw [e4] at h4
            go_enter Tryz.func209, Tryz.ntmps209
            go_wp2_with fail
            refine (HW.out _ HPA.out HPB.out).mono ?_
            rintro e w1 ⟨rfl, b1⟩
            have HB1 := Lib.hid (bthen HB0.out b1 (Nat.le_refl _))
            have HXP1 := Lib.hid (HXP.out.on b1 (by simp; omega))
            have HYP1 := Lib.hid (HYP.out.on b1 (by simp))
            have lq : w.heap.size + 1 < w1.heap.size := by have := b1.size; simp at this; omega
            have lp : w.heap.size < w1.heap.size := by omega
            have c0 := HXP1.out 0 _ rfl
            have d0 := HYP1.out 0 _ rfl
            have c1 := HXP1.out 1 _ rfl
            have d1 := HYP1.out 1 _ rfl
            have c2 := HXP1.out 2 _ rfl
            have d2 := HYP1.out 2 _ rfl
            have c3 := HXP1.out 3 _ rfl
            have d3 := HYP1.out 3 _ rfl
            have c4 := HXP1.out 4 _ rfl
            have d4 := HYP1.out 4 _ rfl
            have c5 := HXP1.out 5 _ rfl
            have d5 := HYP1.out 5 _ rfl
            have c6 := HXP1.out 6 _ rfl
            have d6 := HYP1.out 6 _ rfl
            clear b1
            go_wp2_with fail
            go_ret
            exact ⟨ret_bool (by rw [HX.out, e0, e1, e2, e3, e4]; simp), HB1.out⟩
          | true =>
            rw [e4] at h4
            have h5 := cast_beq x.due y.due
            cases e5 : (x.due == y.due) with
            | false =>
              rw [e5] at h5
              go_enter Tryz.func209, Tryz.ntmps209
              go_wp2_with fail
              refine (HW.out _ HPA.out HPB.out).mono ?_
              rintro e w1 ⟨rfl, b1⟩
              have HB1 := Lib.hid (bthen HB0.out b1 (Nat.le_refl _))
              have HXP1 := Lib.hid (HXP.out.on b1 (by simp; omega))
              have HYP1 := Lib.hid (HYP.out.on b1 (by simp))
              have lq : w.heap.size + 1 < w1.heap.size := by have := b1.size; simp at this; omega
              have lp : w.heap.size < w1.heap.size := by omega
              have c0 := HXP1.out 0 _ rfl
              have d0 := HYP1.out 0 _ rfl
              have c1 := HXP1.out 1 _ rfl
              have d1 := HYP1.out 1 _ rfl
              have c2 := HXP1.out 2 _ rfl
              have d2 := HYP1.out 2 _ rfl
              have c3 := HXP1.out 3 _ rfl
              have d3 := HYP1.out 3 _ rfl
              have c4 := HXP1.out 4 _ rfl
              have d4 := HYP1.out 4 _ rfl
              have c5 := HXP1.out 5 _ rfl
              have d5 := HYP1.out 5 _ rfl
              have c6 := HXP1.out 6 _ rfl
              have d6 := HYP1.out 6 _ rfl
              clear b1
              go_wp2_with fail
              go_ret
              exact ⟨ret_bool (by rw [HX.out, e0, e1, e2, e3, e4, e5]; simp), HB1.out⟩
            | true =>
              rw [e5] at h5
              have h6 := cast_beq x.hops y.hops
              cases e6 : (x.hops == y.hops) with
              | false =>
                rw [e6] at h6
                go_enter Tryz.func209, Tryz.ntmps209
                go_wp2_with fail
                refine (HW.out _ HPA.out HPB.out).mono ?_
                rintro e w1 ⟨rfl, b1⟩
                have HB1 := Lib.hid (bthen HB0.out b1 (Nat.le_refl _))
                have HXP1 := Lib.hid (HXP.out.on b1 (by simp; omega))
                have HYP1 := Lib.hid (HYP.out.on b1 (by simp))
                have lq : w.heap.size + 1 < w1.heap.size := by have := b1.size; simp at this; omega
                have lp : w.heap.size < w1.heap.size := by omega
                have c0 := HXP1.out 0 _ rfl
                have d0 := HYP1.out 0 _ rfl
                have c1 := HXP1.out 1 _ rfl
                have d1 := HYP1.out 1 _ rfl
                have c2 := HXP1.out 2 _ rfl
                have d2 := HYP1.out 2 _ rfl
                have c3 := HXP1.out 3 _ rfl
                have d3 := HYP1.out 3 _ rfl
                have c4 := HXP1.out 4 _ rfl
                have d4 := HYP1.out 4 _ rfl
                have c5 := HXP1.out 5 _ rfl
                have d5 := HYP1.out 5 _ rfl
                have c6 := HXP1.out 6 _ rfl
                have d6 := HYP1.out 6 _ rfl
                clear b1
                go_wp2_with fail
                go_ret
                exact ⟨ret_bool (by rw [HX.out, e0, e1, e2, e3, e4, e5, e6]; simp), HB1.out⟩
              | true =>
                rw [e6] at h6
                go_enter Tryz.func209, Tryz.ntmps209
                go_wp2_with fail
                refine (HW.out _ HPA.out HPB.out).mono ?_
                rintro e w1 ⟨rfl, b1⟩
                have HB1 := Lib.hid (bthen HB0.out b1 (Nat.le_refl _))
                have HXP1 := Lib.hid (HXP.out.on b1 (by simp; omega))
                have HYP1 := Lib.hid (HYP.out.on b1 (by simp))
                have lq : w.heap.size + 1 < w1.heap.size := by have := b1.size; simp at this; omega
                have lp : w.heap.size < w1.heap.size := by omega
                have c0 := HXP1.out 0 _ rfl
                have d0 := HYP1.out 0 _ rfl
                have c1 := HXP1.out 1 _ rfl
                have d1 := HYP1.out 1 _ rfl
                have c2 := HXP1.out 2 _ rfl
                have d2 := HYP1.out 2 _ rfl
                have c3 := HXP1.out 3 _ rfl
                have d3 := HYP1.out 3 _ rfl
                have c4 := HXP1.out 4 _ rfl
                have d4 := HYP1.out 4 _ rfl
                have c5 := HXP1.out 5 _ rfl
                have d5 := HYP1.out 5 _ rfl
                have c6 := HXP1.out 6 _ rfl
                have d6 := HYP1.out 6 _ rfl
                clear b1
                go_wp2_with fail
                go_ret
                exact ⟨ret_bool (by rw [HX.out, e0, e1, e2, e3, e4, e5, e6]; simp), HB1.out⟩
end Go.Proofs.YtgaggelpjaiabaaGreatDoor
end
section
namespace Go.Proofs.YtgaggelpjaiabaaGreatDoor
open Go.ChangeShapes Go.WideShapes Go.ChangeAt Go.RowKit
theorem maEq_decD (x y : Ml) : maEq x y = decide (x = y) := by
  unfold maEq
  cases x; cases y
  rw [Bool.eq_iff_iff]
  simp only [Bool.and_eq_true, beq_iff_eq, decide_eq_true_eq, Ml.mk.injEq]
  constructor
  · rintro ⟨⟨⟨⟨⟨⟨h1, h2⟩, h3⟩, h4⟩, h5⟩, h6⟩, h7⟩
    exact ⟨h1, h2, h3, h4, h5, h6, h7⟩
  · rintro ⟨h1, h2, h3, h4, h5, h6, h7⟩
    exact ⟨⟨⟨⟨⟨⟨h1, h2⟩, h3⟩, h4⟩, h5⟩, h6⟩, h7⟩
end Go.Proofs.YtgaggelpjaiabaaGreatDoor
end
section
namespace Go.Proofs.YtgaggelpjaiabaaGreatDoor
open Go.ChangeShapes Go.WideShapes Go.ChangeAt Go.RowKit
def deL (x : De) (A : Option Addr) (c : Nat) (B : Option Addr) (d : Nat) : List Value := [.int .u8 (x.kd : Int), .int .u64 (x.tick : Int), .string (ofL x.shop.name), .int .u8 (x.shop.sort : Int), .string (ofL x.shop.to), .string (ofL x.q.name), .int .u64 (x.q.most : Int), .int .u64 (x.q.life : Int), .string (ofL x.q.dead), .string (ofL x.bind.shop), .string (ofL x.bind.to), .bool x.bind.up, .string (ofL x.bind.key), .slice A x.bind.want.length c, .bool x.bind.all, .string (ofL x.name), .int .u64 (x.id : Int), .int .u8 (x.how : Int), .int .u8 (x.frm : Int), .int .u8 (x.cd : Int), .int .u64 (x.num : Int), .int .u64 (x.mail.id : Int), .string (ofL x.mail.shop), .string (ofL x.mail.key), .slice B x.mail.head.length d, .string (ofL x.mail.body), .int .u64 (x.mail.due : Int), .int .u8 (x.mail.hops : Int), .string (ofL x.text)]
def deV (x : De) (A : Option Addr) (c : Nat) (B : Option Addr) (d : Nat) : Value := .agg #[.int .u8 (x.kd : Int), .int .u64 (x.tick : Int), .string (ofL x.shop.name), .int .u8 (x.shop.sort : Int), .string (ofL x.shop.to), .string (ofL x.q.name), .int .u64 (x.q.most : Int), .int .u64 (x.q.life : Int), .string (ofL x.q.dead), .string (ofL x.bind.shop), .string (ofL x.bind.to), .bool x.bind.up, .string (ofL x.bind.key), .slice A x.bind.want.length c, .bool x.bind.all, .string (ofL x.name), .int .u64 (x.id : Int), .int .u8 (x.how : Int), .int .u8 (x.frm : Int), .int .u8 (x.cd : Int), .int .u64 (x.num : Int), .int .u64 (x.mail.id : Int), .string (ofL x.mail.shop), .string (ofL x.mail.key), .slice B x.mail.head.length d, .string (ofL x.mail.body), .int .u64 (x.mail.due : Int), .int .u8 (x.mail.hops : Int), .string (ofL x.text)]
/-- its numbers are such that it can be walked -/
structure DeOk (w : World) (x : De) (A : Option Addr) (c : Nat) (B : Option Addr) (d : Nat) : Prop where
  sn : x.shop.name.length ≤ 90000
  st : x.shop.to.length ≤ 90000
  qn : x.q.name.length ≤ 90000
  qd : x.q.dead.length ≤ 90000
  bind : BdOk w x.bind A c
  name : x.name.length ≤ 90000
  mail : MaOk w x.mail B d
  text : x.text.length ≤ 90000
theorem DeOk.on {w w' : World} {x : De} {A : Option Addr} {c : Nat} {B : Option Addr} {d : Nat} (h : DeOk w x A c B d) (hb : Below w.heap.size w w') : DeOk w' x A c B d := ⟨h.sn, h.st, h.qn, h.qd, h.bind.on hb, h.name, h.mail.on hb, h.text⟩
/-- a deed's box, of one's own, and its rows -/
structure DeX (w : World) (x : De) (A : Option Addr) (c : Nat) (B : Option Addr) (d q : Nat) (W : World) : Prop where
  p : BoxC w q (deL x A c B d) W
  ra : Prs W A x.bind.want
  rb : Prs W B x.mail.head
theorem DeX.on {w : World} {x : De} {A : Option Addr} {c : Nat} {B : Option Addr} {d q : Nat} {W W' : World} (h : DeX w x A c B d q W) (hb : Below W.heap.size W W') : DeX w x A c B d q W' := ⟨h.p.on hb, h.ra.on hb, h.rb.on hb⟩
theorem DeX.start (w : World) (x : De) (A : Option Addr) (c : Nat) (B : Option Addr) (d : Nat) (hA : Prs w A x.bind.want) (hB : Prs w B x.mail.head) (t : TypeId) : DeX w x A c B d w.heap.size (w.alloc (.cells #[.int .u8 (x.kd : Int), .int .u64 (x.tick : Int), .string (ofL x.shop.name), .int .u8 (x.shop.sort : Int), .string (ofL x.shop.to), .string (ofL x.q.name), .int .u64 (x.q.most : Int), .int .u64 (x.q.life : Int), .string (ofL x.q.dead), .string (ofL x.bind.shop), .string (ofL x.bind.to), .bool x.bind.up, .string (ofL x.bind.key), .slice A x.bind.want.length c, .bool x.bind.all, .string (ofL x.name), .int .u64 (x.id : Int), .int .u8 (x.how : Int), .int .u8 (x.frm : Int), .int .u8 (x.cd : Int), .int .u64 (x.num : Int), .int .u64 (x.mail.id : Int), .string (ofL x.mail.shop), .string (ofL x.mail.key), .slice B x.mail.head.length d, .string (ofL x.mail.body), .int .u64 (x.mail.due : Int), .int .u8 (x.mail.hops : Int), .string (ofL x.text)] t)) := by
  have hb : Below w.heap.size w (w.alloc (.cells #[.int .u8 (x.kd : Int), .int .u64 (x.tick : Int), .string (ofL x.shop.name), .int .u8 (x.shop.sort : Int), .string (ofL x.shop.to), .string (ofL x.q.name), .int .u64 (x.q.most : Int), .int .u64 (x.q.life : Int), .string (ofL x.q.dead), .string (ofL x.bind.shop), .string (ofL x.bind.to), .bool x.bind.up, .string (ofL x.bind.key), .slice A x.bind.want.length c, .bool x.bind.all, .string (ofL x.name), .int .u64 (x.id : Int), .int .u8 (x.how : Int), .int .u8 (x.frm : Int), .int .u8 (x.cd : Int), .int .u64 (x.num : Int), .int .u64 (x.mail.id : Int), .string (ofL x.mail.shop), .string (ofL x.mail.key), .slice B x.mail.head.length d, .string (ofL x.mail.body), .int .u64 (x.mail.due : Int), .int .u8 (x.mail.hops : Int), .string (ofL x.text)] t)) := (Below.refl _ _).alloc (Nat.le_refl _) _
  exact ⟨BoxC.new (Nat.le_refl _) #[.int .u8 (x.kd : Int), .int .u64 (x.tick : Int), .string (ofL x.shop.name), .int .u8 (x.shop.sort : Int), .string (ofL x.shop.to), .string (ofL x.q.name), .int .u64 (x.q.most : Int), .int .u64 (x.q.life : Int), .string (ofL x.q.dead), .string (ofL x.bind.shop), .string (ofL x.bind.to), .bool x.bind.up, .string (ofL x.bind.key), .slice A x.bind.want.length c, .bool x.bind.all, .string (ofL x.name), .int .u64 (x.id : Int), .int .u8 (x.how : Int), .int .u8 (x.frm : Int), .int .u8 (x.cd : Int), .int .u64 (x.num : Int), .int .u64 (x.mail.id : Int), .string (ofL x.mail.shop), .string (ofL x.mail.key), .slice B x.mail.head.length d, .string (ofL x.mail.body), .int .u64 (x.mail.due : Int), .int .u8 (x.mail.hops : Int), .string (ofL x.text)] t, hA.on hb, hB.on hb⟩
theorem DeX.next {w : World} (o : Obj) (x : De) (A : Option Addr) (c : Nat) (B : Option Addr) (d : Nat) (hA : Prs w A x.bind.want) (hB : Prs w B x.mail.head) (t : TypeId) : DeX w x A c B d (w.heap.size + 1) ((w.alloc o).alloc (.cells #[.int .u8 (x.kd : Int), .int .u64 (x.tick : Int), .string (ofL x.shop.name), .int .u8 (x.shop.sort : Int), .string (ofL x.shop.to), .string (ofL x.q.name), .int .u64 (x.q.most : Int), .int .u64 (x.q.life : Int), .string (ofL x.q.dead), .string (ofL x.bind.shop), .string (ofL x.bind.to), .bool x.bind.up, .string (ofL x.bind.key), .slice A x.bind.want.length c, .bool x.bind.all, .string (ofL x.name), .int .u64 (x.id : Int), .int .u8 (x.how : Int), .int .u8 (x.frm : Int), .int .u8 (x.cd : Int), .int .u64 (x.num : Int), .int .u64 (x.mail.id : Int), .string (ofL x.mail.shop), .string (ofL x.mail.key), .slice B x.mail.head.length d, .string (ofL x.mail.body), .int .u64 (x.mail.due : Int), .int .u8 (x.mail.hops : Int), .string (ofL x.text)] t)) := by
  have hb := rtTwo w o (.cells #[.int .u8 (x.kd : Int), .int .u64 (x.tick : Int), .string (ofL x.shop.name), .int .u8 (x.shop.sort : Int), .string (ofL x.shop.to), .string (ofL x.q.name), .int .u64 (x.q.most : Int), .int .u64 (x.q.life : Int), .string (ofL x.q.dead), .string (ofL x.bind.shop), .string (ofL x.bind.to), .bool x.bind.up, .string (ofL x.bind.key), .slice A x.bind.want.length c, .bool x.bind.all, .string (ofL x.name), .int .u64 (x.id : Int), .int .u8 (x.how : Int), .int .u8 (x.frm : Int), .int .u8 (x.cd : Int), .int .u64 (x.num : Int), .int .u64 (x.mail.id : Int), .string (ofL x.mail.shop), .string (ofL x.mail.key), .slice B x.mail.head.length d, .string (ofL x.mail.body), .int .u64 (x.mail.due : Int), .int .u8 (x.mail.hops : Int), .string (ofL x.text)] t)
  exact ⟨rtAt1 w o #[.int .u8 (x.kd : Int), .int .u64 (x.tick : Int), .string (ofL x.shop.name), .int .u8 (x.shop.sort : Int), .string (ofL x.shop.to), .string (ofL x.q.name), .int .u64 (x.q.most : Int), .int .u64 (x.q.life : Int), .string (ofL x.q.dead), .string (ofL x.bind.shop), .string (ofL x.bind.to), .bool x.bind.up, .string (ofL x.bind.key), .slice A x.bind.want.length c, .bool x.bind.all, .string (ofL x.name), .int .u64 (x.id : Int), .int .u8 (x.how : Int), .int .u8 (x.frm : Int), .int .u8 (x.cd : Int), .int .u64 (x.num : Int), .int .u64 (x.mail.id : Int), .string (ofL x.mail.shop), .string (ofL x.mail.key), .slice B x.mail.head.length d, .string (ofL x.mail.body), .int .u64 (x.mail.due : Int), .int .u8 (x.mail.hops : Int), .string (ofL x.text)] t, hA.on hb, hB.on hb⟩
/-- whether two deeds are the same, piece by piece -/
def quEq (x y : Qu) : Bool := (x.name == y.name) && (x.most == y.most) && (x.life == y.life) && (x.dead == y.dead)
theorem quEq_dec (x y : Qu) : quEq x y = decide (x = y) := by
  obtain ⟨a, b, c, d⟩ := x
  obtain ⟨a', b', c', d'⟩ := y
  rw [Bool.eq_iff_iff]
  simp [quEq, and_assoc]
def deEq (x y : De) : Bool := (x.kd == y.kd) && ((x.tick == y.tick) && (decide (x.shop = y.shop) && (decide (x.q = y.q) && (decide (x.bind = y.bind) && ((x.name == y.name) && ((x.id == y.id) && ((x.how == y.how) && ((x.frm == y.frm) && ((x.cd == y.cd) && ((x.num == y.num) && (decide (x.mail = y.mail) && (x.text == y.text))))))))))))
theorem deEq_dec (x y : De) : deEq x y = decide (x = y) := by
  cases x; cases y
  rw [Bool.eq_iff_iff]
  simp [deEq, De.mk.injEq]
end Go.Proofs.YtgaggelpjaiabaaGreatDoor
end
section
namespace Go.Proofs.YtgaggelpjaiabaaGreatDoor
open Go.ChangeShapes Go.WideShapes Go.ChangeAt Go.RowKit
theorem setCells_pa (b : Nat) : ∀ (vs : List Value) (o : Nat) (W : World), W.setCells b o vs = putAll b o vs W
  | [], _, _ => rfl
  | v :: vs, o, W => by
    unfold World.setCells putAll
    exact setCells_pa b vs (o + 1) _
theorem Cels.range {W : World} {q : Nat} {xs : List Value} (h : Cels W q xs) : W.rangeAt q 0 xs := fun j v hj => by rw [Nat.zero_add]; exact h j v hj
theorem Cels.mid {W : World} {q : Nat} {bs xs es : List Value} (h : Cels W q (bs ++ (xs ++ es))) : W.rangeAt q bs.length xs := fun j v hj => by
  refine h (bs.length + j) v ?_
  rw [List.getElem?_append_right (Nat.le_add_right _ _), Nat.add_sub_cancel_left, List.getElem?_append_left (List.getElem?_eq_some_iff.1 hj).1]
  exact hj
theorem BoxC.there {w W : World} {c : Nat} {xs : List Value} (h : BoxC w c xs W) : W.there c 0 xs.length := fun j hj => by
  rw [Nat.zero_add]
  exact ⟨by rw [h.cs j xs[j] (List.getElem?_eq_getElem hj)]; rfl, h.s j⟩
theorem BoxC.over {w W : World} {c : Nat} {xs : List Value} (h : BoxC w c xs W) (ys : List Value) (hl : ys.length = xs.length) : BoxC w c ys (W.setCells c 0 ys) := by
  rw [setCells_pa]; exact h.fill ys hl
theorem below_setCells {w : World} {g : Nat} (hg : w.heap.size ≤ g) (vs : List Value) (j : Nat) {W : World} (h : Below w.heap.size w W) : Below w.heap.size w (W.setCells g j vs) := by
  rw [setCells_pa]; exact below_putAll hg vs j h
theorem de_one (x : De) (A : Option Addr) (c : Nat) (B : Option Addr) (d : Nat) : ∀ v ∈ deL x A c B d, v.oneCell' = true := by
  unfold deL
  intro v hv
  simp only [List.mem_cons, List.not_mem_nil, or_false] at hv
  rcases hv with rfl | rfl | rfl | rfl | rfl | rfl | rfl | rfl | rfl | rfl | rfl | rfl | rfl | rfl | rfl | rfl | rfl | rfl | rfl | rfl | rfl | rfl | rfl | rfl | rfl | rfl | rfl | rfl | rfl <;> rfl
theorem de_all (x : De) (A : Option Addr) (c : Nat) (B : Option Addr) (d : Nat) : (deL x A c B d).toArray.all (·.oneCell') = true := all_oneCell_toArray (de_one x A c B d)
theorem deL_len (x : De) (A : Option Addr) (c : Nat) (B : Option Addr) (d : Nat) : (deL x A c B d).length = 29 := rfl
theorem de_size : (Tryz.prog.info? 111).map (·.size) = some 29 := by kernel_rfl
theorem de_res (x : De) (A : Option Addr) (c : Nat) (B : Option Addr) (d : Nat) (W : World) (g : Nat) (h : Cels W g (deL x A c B d)) : (loadVar 111 ⟨g, 0, none⟩).run Tryz.prog W = .ok (deV x A c B d) W :=
  run_loadVar_mid W g 0 111 (deL x A c B d) _ h.range Tryz.underlying111 rfl (by rw [de_size, deL_len])
/-- a whole deed into the box that was made last -/
theorem wpList_store_new2 {P : Program} {ops : Array Oper} {rest : List Oper} {op : Oper} {a : Act} {w : World} {Q : Exit → Act → World → Prop} (hgd : op.guard = none) (ty : TypeId) (x y : Operand) (ho : op.op = .store ty x y)
    (c c' : Array Value) (hx : a.eval x = .pointer (some ⟨w.heap.size, 0, none⟩)) (hy : a.eval y = .agg c') (hi : (P.info? ty).map (·.size) = some c'.size) (hcc : c.size = c'.size) (h1 : c'.all (·.oneCell') = true)
    (h : wpList P ops Q rest (a.put op.dst undef) (w.alloc (.cells c' ty))) : wpList P ops Q (op :: rest) a (w.alloc (.cells c ty)) :=
  wpList_plain hgd fun _ hK => by
    unfold Oper.wp execOp
    simp only [ho, hx, hy, Sem.run_bind, Sem.run_pure, Result.andThen_ok, run_storeAt_new w ty c c' hi hcc h1]
    exact hK _ _ h
end Go.Proofs.YtgaggelpjaiabaaGreatDoor
end
