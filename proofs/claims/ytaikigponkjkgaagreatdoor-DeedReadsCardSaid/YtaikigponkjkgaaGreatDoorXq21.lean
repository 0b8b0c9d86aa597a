/-
 A part of the proof.
-/
import Derived.Test.YtaikigponkjkgaaGreatDoorXq17
import Derived.Test.YtaikigponkjkgaaGreatDoorXq20

section
namespace Go.Proofs.YtaikigponkjkgaaGreatDoor
open Go.ChangeShapes Go.WideShapes Go.ChangeAt Go.RowKit
open Go.Lib (hid)
set_option maxRecDepth 100000
def exMl : Ml := ⟨0, [97], [], [], [], 0, 0⟩
theorem exMl_code : exMl.code = 0 := by decide
theorem exMl_len : exMl.enc.length = 25 := by decide
theorem ex13_bytes (w : World) (hL : Len w) : Calls Tryz.prog 82 #[.agg #[.int .u64 0, .string ⟨#[97]⟩, .string ⟨#[]⟩, .slice none 0 0, .string ⟨#[]⟩, .int .u64 0, .int .u8 0]] w fun e w' => e = .returned (.tuple #[.string (ofL exMl.enc), .int .i64 0]) ∧ Below w.heap.size w w' := by
 have h := maBytes_any exMl none 0 w ⟨by decide, by decide, by decide, by decide, by decide, lite_nil, Prs.nil _ _⟩ ⟨by decide, by decide, by decide, fun p hp => absurd hp (by simp [exMl])⟩ hL
 rw [show maBytesV exMl = .tuple #[.string (ofL exMl.enc), .int .i64 0] by unfold maBytesV; rw [if_pos exMl_code]] at h
 exact h
theorem ml_law9Awake (w : World) (hL : Len w) : Calls Tryz.prog 83 #[] w fun e w' => e = .returned (.bool true) ∧ Below w.heap.size w w' := by
 have HA := hid (awake9_any w hL)
 go_enter Tryz.func83, Tryz.ntmps83
 go_wp2_with fail
 refine HA.out.mono ?_
 rintro x w1 ⟨rfl, b1⟩
 have B1 := hid b1
 clear b1
 go_wp2_with fail
 go_ret
 exact ⟨rfl, B1.out⟩
set_option maxHeartbeats 1000000 in
theorem awake13_any (w : World) (hL : Len w) : Calls Tryz.prog 38 #[] w fun e w' => e = .returned (.bool true) ∧ Below w.heap.size w w' := by
 have HL := hid hL
 have HX := hid (ex13_bytes w hL)
 have hz : (ofL exMl.enc).size = 25 := by rw [ofL_size, exMl_len]
 clear hL
 generalize ofL exMl.enc = E at *
 go_enter Tryz.func38, Tryz.ntmps38
 go_wp2_with fail
 refine HX.out.mono ?_
 rintro e w1 ⟨rfl, b1⟩
 have HL1 := hid (HL.out.on b1)
 have HB1 := hid b1
 clear b1
 go_wp2_with fail
 refine (ml_law9Awake _ HL1.out).mono ?_
 rintro e w2 ⟨rfl, b2⟩
 have HB2 := hid (bthen HB1.out b2 (Nat.le_refl _))
 clear b2
 go_wp2_with fail
 go_ret
 exact ⟨rfl, HB2.out⟩
def maEq (x y : Ml) : Bool := (x.id == y.id) && (x.shop == y.shop) && (x.key == y.key) && decide (x.head = y.head) && (x.body == y.body) && (x.due == y.due) && (x.hops == y.hops)
set_option maxHeartbeats 8000000 in
theorem ml_Same_any (x y : Ml) (A : Option Addr) (c : Nat) (B : Option Addr) (d : Nat) (w : World) (hl : x.head.length ≤ 100000) (hm : y.head.length ≤ 100000) (hA : Prs w A x.head) (hB : Prs w B y.head) :
  Calls Tryz.prog 100 #[maV x A c, maV y B d] w fun e w' => e = .returned (.bool (maEq x y)) ∧ Below w.heap.size w w' := by
 have HB0 := hid (show Below w.heap.size w ((w.alloc (.cells #[.int .u64 (x.id : Int), .string (ofL x.shop), .string (ofL x.key), .slice A x.head.length c, .string (ofL x.body), .int .u64 (x.due : Int), .int .u8 (x.hops : Int)] 50)).alloc (.cells #[.int .u64 (y.id : Int), .string (ofL y.shop), .string (ofL y.key), .slice B y.head.length d, .string (ofL y.body), .int .u64 (y.due : Int), .int .u8 (y.hops : Int)] 50)) from ((Below.refl _ _).alloc (Nat.le_refl _) _).alloc (by simp) _)
 have HXP := hid (show Cels ((w.alloc (.cells #[.int .u64 (x.id : Int), .string (ofL x.shop), .string (ofL x.key), .slice A x.head.length c, .string (ofL x.body), .int .u64 (x.due : Int), .int .u8 (x.hops : Int)] 50)).alloc (.cells #[.int .u64 (y.id : Int), .string (ofL y.shop), .string (ofL y.key), .slice B y.head.length d, .string (ofL y.body), .int .u64 (y.due : Int), .int .u8 (y.hops : Int)] 50)) w.heap.size [.int .u64 (x.id : Int), .string (ofL x.shop), .string (ofL x.key), .slice A x.head.length c, .string (ofL x.body), .int .u64 (x.due : Int), .int .u8 (x.hops : Int)] from (Cels.new w #[.int .u64 (x.id : Int), .string (ofL x.shop), .string (ofL x.key), .slice A x.head.length c, .string (ofL x.body), .int .u64 (x.due : Int), .int .u8 (x.hops : Int)] 50).on ((Below.refl _ _).alloc (Nat.le_refl _) _) (by simp))
 have HYP := hid (show Cels ((w.alloc (.cells #[.int .u64 (x.id : Int), .string (ofL x.shop), .string (ofL x.key), .slice A x.head.length c, .string (ofL x.body), .int .u64 (x.due : Int), .int .u8 (x.hops : Int)] 50)).alloc (.cells #[.int .u64 (y.id : Int), .string (ofL y.shop), .string (ofL y.key), .slice B y.head.length d, .string (ofL y.body), .int .u64 (y.due : Int), .int .u8 (y.hops : Int)] 50)) (w.heap.size + 1) [.int .u64 (y.id : Int), .string (ofL y.shop), .string (ofL y.key), .slice B y.head.length d, .string (ofL y.body), .int .u64 (y.due : Int), .int .u8 (y.hops : Int)] by
  have := Cels.new (w.alloc (.cells #[.int .u64 (x.id : Int), .string (ofL x.shop), .string (ofL x.key), .slice A x.head.length c, .string (ofL x.body), .int .u64 (x.due : Int), .int .u8 (x.hops : Int)] 50)) #[.int .u64 (y.id : Int), .string (ofL y.shop), .string (ofL y.key), .slice B y.head.length d, .string (ofL y.body), .int .u64 (y.due : Int), .int .u8 (y.hops : Int)] 50
  simpa using this)
 have HPA := hid (hA.on HB0.out)
 have HPB := hid (hB.on HB0.out)
 have HW := hid (fun W h1 h2 => hsame_any x.head y.head A c B d W hl hm h1 h2)
 have HX : Hid (maEq x y = ((x.id == y.id) && (x.shop == y.shop) && (x.key == y.key) && decide (x.head = y.head) && (x.body == y.body) && (x.due == y.due) && (x.hops == y.hops))) := rfl
 clear hA hB
 generalize maEq x y = SB at *
 simp only [maV] at *
 generalize decide (x.head = y.head) = M at *
 have h0 := cast_beq x.id y.id
 cases e0 : (x.id == y.id) with
 | false =>
  rw [e0] at h0
  go_enter Tryz.func100, Tryz.ntmps100
  go_wp2_with fail
  go_ret
  exact ⟨ret_bool (by rw [HX.out, e0]; simp), HB0.out⟩
 | true =>
  rw [e0] at h0
  have h1 := str_same x.shop y.shop
  cases e1 : (x.shop == y.shop) with
  | false =>
   rw [e1] at h1
   go_enter Tryz.func100, Tryz.ntmps100
   go_wp2_with fail
   go_ret
   exact ⟨ret_bool (by rw [HX.out, e0, e1]; simp), HB0.out⟩
  | true =>
   rw [e1] at h1
   have h2 := str_same x.key y.key
   cases e2 : (x.key == y.key) with
   | false =>
    rw [e2] at h2
    go_enter Tryz.func100, Tryz.ntmps100
    go_wp2_with fail
    go_ret
    exact ⟨ret_bool (by rw [HX.out, e0, e1, e2]; simp), HB0.out⟩
   | true =>
    rw [e2] at h2
    cases e3 : M with
    | false =>
     rw [e3] at HW
     go_enter Tryz.func100, Tryz.ntmps100
     go_wp2_with fail
     refine (HW.out _ HPA.out HPB.out).mono ?_
     rintro e w1 ⟨rfl, b1⟩
     have HB1 := hid (bthen HB0.out b1 (Nat.le_refl _))
     have HXP1 := hid (HXP.out.on b1 (by simp; omega))
     have HYP1 := hid (HYP.out.on b1 (by simp))
     have lq : w.heap.size + 1 < w1.heap.size := by have := b1.size; simp at this; omega
     have lp : w.heap.size < w1.heap.size := by omega
     have c0 := HXP1.out 0 _ rfl
     have d0 := HYP1.out 0 _ rfl
     have c1 := HXP1.out 1 _ rfl
     have d1 := HYP1.out 1 _ rfl
     have c2 := HXP1.out 2 _ rfl
     have d2 := HYP1.out 2 _ rfl
     have c3 := HXP1.out 3 _ rfl
     have d3 := HYP1.out 3 _ rfl
     have c4 := HXP1.out 4 _ rfl
     have d4 := HYP1.out 4 _ rfl
     have c5 := HXP1.out 5 _ rfl
     have d5 := HYP1.out 5 _ rfl
     have c6 := HXP1.out 6 _ rfl
     have d6 := HYP1.out 6 _ rfl
     clear b1
     go_wp2_with fail
     go_ret
     exact ⟨ret_bool (by rw [HX.out, e0, e1, e2, e3]; simp), HB1.out⟩
    | true =>
     rw [e3] at HW
     have h4 := str_same x.body y.body
     cases e4 : (x.body == y.body) with
     | false =>
      rw [e4] at h4
      go_enter Tryz.func100, Tryz.ntmps100
      go_wp2_with fail
      refine (HW.out _ HPA.out HPB.out).mono ?_
      rintro e w1 ⟨rfl, b1⟩
      have HB1 := hid (bthen HB0.out b1 (Nat.le_refl _))
      have HXP1 := hid (HXP.out.on b1 (by simp; omega))
      have HYP1 := hid (HYP.out.on b1 (by simp))
      have lq : w.heap.size + 1 < w1.heap.size := by have := b1.size; simp at this; omega
      have lp : w.heap.size < w1.heap.size := by omega
      have c0 := HXP1.out 0 _ rfl
      have d0 := HYP1.out 0 _ rfl
      have c1 := HXP1.out 1 _ rfl
      have d1 := HYP1.out 1 _ rfl
      have c2 := HXP1.out 2 _ rfl
      have d2 := HYP1.out 2 _ rfl
      have c3 := HXP1.out 3 _ rfl
      have d3 := HYP1.out 3 _ rfl
      have c4 := HXP1.out 4 _ rfl
      have d4 := HYP1.out 4 _ rfl
      have c5 := HXP1.out 5 _ rfl
      have d5 := HYP1.out 5 _ rfl
      have c6 := HXP1.out 6 _ rfl
      have d6 := HYP1.out 6 _ rfl
      clear b1
      go_wp2_with fail
      go_ret
      exact ⟨ret_bool (by rw [HX.out, e0, e1, e2, e3, e4]; simp), HB1.out⟩
     | true =>
      rw [e4] at h4
      have h5 := cast_beq x.due y.due
      cases e5 : (x.due == y.due) with
      | false =>
       rw [e5] at h5
       go_enter Tryz.func100, Tryz.ntmps100
       go_wp2_with fail
       refine (HW.out _ HPA.out HPB.out).mono ?_
       rintro e w1 ⟨rfl, b1⟩
       have HB1 := hid (bthen HB0.out b1 (Nat.le_refl _))
       have HXP1 := hid (HXP.out.on b1 (by simp; omega))
       have HYP1 := hid (HYP.out.on b1 (by simp))
       have lq : w.heap.size + 1 < w1.heap.size := by have := b1.size; simp at this; omega
       have lp : w.heap.size < w1.heap.size := by omega
       have c0 := HXP1.out 0 _ rfl
       have d0 := HYP1.out 0 _ rfl
       have c1 := HXP1.out 1 _ rfl
       have d1 := HYP1.out 1 _ rfl
       have c2 := HXP1.out 2 _ rfl
       have d2 := HYP1.out 2 _ rfl
       have c3 := HXP1.out 3 _ rfl
       have d3 := HYP1.out 3 _ rfl
       have c4 := HXP1.out 4 _ rfl
       have d4 := HYP1.out 4 _ rfl
       have c5 := HXP1.out 5 _ rfl
       have d5 := HYP1.out 5 _ rfl
       have c6 := HXP1.out 6 _ rfl
       have d6 := HYP1.out 6 _ rfl
       clear b1
       go_wp2_with fail
       go_ret
       exact ⟨ret_bool (by rw [HX.out, e0, e1, e2, e3, e4, e5]; simp), HB1.out⟩
      | true =>
       rw [e5] at h5
       have h6 := cast_beq x.hops y.hops
       cases e6 : (x.hops == y.hops) with
       | false =>
        rw [e6] at h6
        go_enter Tryz.func100, Tryz.ntmps100
        go_wp2_with fail
        refine (HW.out _ HPA.out HPB.out).mono ?_
        rintro e w1 ⟨rfl, b1⟩
        have HB1 := hid (bthen HB0.out b1 (Nat.le_refl _))
        have HXP1 := hid (HXP.out.on b1 (by simp; omega))
        have HYP1 := hid (HYP.out.on b1 (by simp))
        have lq : w.heap.size + 1 < w1.heap.size := by have := b1.size; simp at this; omega
        have lp : w.heap.size < w1.heap.size := by omega
        have c0 := HXP1.out 0 _ rfl
        have d0 := HYP1.out 0 _ rfl
        have c1 := HXP1.out 1 _ rfl
        have d1 := HYP1.out 1 _ rfl
        have c2 := HXP1.out 2 _ rfl
        have d2 := HYP1.out 2 _ rfl
        have c3 := HXP1.out 3 _ rfl
        have d3 := HYP1.out 3 _ rfl
        have c4 := HXP1.out 4 _ rfl
        have d4 := HYP1.out 4 _ rfl
        have c5 := HXP1.out 5 _ rfl
        have d5 := HYP1.out 5 _ rfl
        have c6 := HXP1.out 6 _ rfl
        have d6 := HYP1.out 6 _ rfl
        clear b1
        go_wp2_with fail
        go_ret
        exact ⟨ret_bool (by rw [HX.out, e0, e1, e2, e3, e4, e5, e6]; simp), HB1.out⟩
       | true =>
        rw [e6] at h6
        go_enter Tryz.func100, Tryz.ntmps100
        go_wp2_with fail
        refine (HW.out _ HPA.out HPB.out).mono ?_
        rintro e w1 ⟨rfl, b1⟩
        have HB1 := hid (bthen HB0.out b1 (Nat.le_refl _))
        have HXP1 := hid (HXP.out.on b1 (by simp; omega))
        have HYP1 := hid (HYP.out.on b1 (by simp))
        have lq : w.heap.size + 1 < w1.heap.size := by have := b1.size; simp at this; omega
        have lp : w.heap.size < w1.heap.size := by omega
        have c0 := HXP1.out 0 _ rfl
        have d0 := HYP1.out 0 _ rfl
        have c1 := HXP1.out 1 _ rfl
        have d1 := HYP1.out 1 _ rfl
        have c2 := HXP1.out 2 _ rfl
        have d2 := HYP1.out 2 _ rfl
        have c3 := HXP1.out 3 _ rfl
        have d3 := HYP1.out 3 _ rfl
        have c4 := HXP1.out 4 _ rfl
        have d4 := HYP1.out 4 _ rfl
        have c5 := HXP1.out 5 _ rfl
        have d5 := HYP1.out 5 _ rfl
        have c6 := HXP1.out 6 _ rfl
        have d6 := HYP1.out 6 _ rfl
        clear b1
        go_wp2_with fail
        go_ret
        exact ⟨ret_bool (by rw [HX.out, e0, e1, e2, e3, e4, e5, e6]; simp), HB1.out⟩
set_option maxHeartbeats 8000000 in
theorem r13Same_any (x y : Ml) (A : Option Addr) (c : Nat) (B : Option Addr) (d : Nat) (w : World) (hl : x.head.length ≤ 100000) (hm : y.head.length ≤ 100000) (hA : Prs w A x.head) (hB : Prs w B y.head) :
  Calls Tryz.prog 66 #[maV x A c, maV y B d] w fun e w' => e = .returned (.bool (maEq x y)) ∧ Below w.heap.size w w' := by
 have HB0 := hid (show Below w.heap.size w ((w.alloc (.cells #[.int .u64 (x.id : Int), .string (ofL x.shop), .string (ofL x.key), .slice A x.head.length c, .string (ofL x.body), .int .u64 (x.due : Int), .int .u8 (x.hops : Int)] 50)).alloc (.cells #[.int .u64 (y.id : Int), .string (ofL y.shop), .string (ofL y.key), .slice B y.head.length d, .string (ofL y.body), .int .u64 (y.due : Int), .int .u8 (y.hops : Int)] 50)) from ((Below.refl _ _).alloc (Nat.le_refl _) _).alloc (by simp) _)
 have HXP := hid (show Cels ((w.alloc (.cells #[.int .u64 (x.id : Int), .string (ofL x.shop), .string (ofL x.key), .slice A x.head.length c, .string (ofL x.body), .int .u64 (x.due : Int), .int .u8 (x.hops : Int)] 50)).alloc (.cells #[.int .u64 (y.id : Int), .string (ofL y.shop), .string (ofL y.key), .slice B y.head.length d, .string (ofL y.body), .int .u64 (y.due : Int), .int .u8 (y.hops : Int)] 50)) w.heap.size [.int .u64 (x.id : Int), .string (ofL x.shop), .string (ofL x.key), .slice A x.head.length c, .string (ofL x.body), .int .u64 (x.due : Int), .int .u8 (x.hops : Int)] from (Cels.new w #[.int .u64 (x.id : Int), .string (ofL x.shop), .string (ofL x.key), .slice A x.head.length c, .string (ofL x.body), .int .u64 (x.due : Int), .int .u8 (x.hops : Int)] 50).on ((Below.refl _ _).alloc (Nat.le_refl _) _) (by simp))
 have HYP := hid (show Cels ((w.alloc (.cells #[.int .u64 (x.id : Int), .string (ofL x.shop), .string (ofL x.key), .slice A x.head.length c, .string (ofL x.body), .int .u64 (x.due : Int), .int .u8 (x.hops : Int)] 50)).alloc (.cells #[.int .u64 (y.id : Int), .string (ofL y.shop), .string (ofL y.key), .slice B y.head.length d, .string (ofL y.body), .int .u64 (y.due : Int), .int .u8 (y.hops : Int)] 50)) (w.heap.size + 1) [.int .u64 (y.id : Int), .string (ofL y.shop), .string (ofL y.key), .slice B y.head.length d, .string (ofL y.body), .int .u64 (y.due : Int), .int .u8 (y.hops : Int)] by
  have := Cels.new (w.alloc (.cells #[.int .u64 (x.id : Int), .string (ofL x.shop), .string (ofL x.key), .slice A x.head.length c, .string (ofL x.body), .int .u64 (x.due : Int), .int .u8 (x.hops : Int)] 50)) #[.int .u64 (y.id : Int), .string (ofL y.shop), .string (ofL y.key), .slice B y.head.length d, .string (ofL y.body), .int .u64 (y.due : Int), .int .u8 (y.hops : Int)] 50
  simpa using this)
 have HPA := hid (hA.on HB0.out)
 have HPB := hid (hB.on HB0.out)
 have HW := hid (fun W h1 h2 => rsame9_any x.head y.head A c B d W hl hm h1 h2)
 have HX : Hid (maEq x y = ((x.id == y.id) && (x.shop == y.shop) && (x.key == y.key) && decide (x.head = y.head) && (x.body == y.body) && (x.due == y.due) && (x.hops == y.hops))) := rfl
 clear hA hB
 generalize maEq x y = SB at *
 simp only [maV] at *
 generalize decide (x.head = y.head) = M at *
 have h0 := cast_beq x.id y.id
 cases e0 : (x.id == y.id) with
 | false =>
  rw [e0] at h0
  go_enter Tryz.func66, Tryz.ntmps66
  go_wp2_with fail
  go_ret
  exact ⟨ret_bool (by rw [HX.out, e0]; simp), HB0.out⟩
 | true =>
  rw [e0] at h0
  have h1 := str_same x.shop y.shop
  cases e1 : (x.shop == y.shop) with
  | false =>
   rw [e1] at h1
   go_enter Tryz.func66, Tryz.ntmps66
   go_wp2_with fail
   go_ret
   exact ⟨ret_bool (by rw [HX.out, e0, e1]; simp), HB0.out⟩
  | true =>
   rw [e1] at h1
   have h2 := str_same x.key y.key
   cases e2 : (x.key == y.key) with
   | false =>
    rw [e2] at h2
    go_enter Tryz.func66, Tryz.ntmps66
    go_wp2_with fail
    go_ret
    exact ⟨ret_bool (by rw [HX.out, e0, e1, e2]; simp), HB0.out⟩
   | true =>
    rw [e2] at h2
    cases e3 : M with
    | false =>
     rw [e3] at HW
     go_enter Tryz.func66, Tryz.ntmps66
     go_wp2_with fail
     refine (HW.out _ HPA.out HPB.out).mono ?_
     rintro e w1 ⟨rfl, b1⟩
     have HB1 := hid (bthen HB0.out b1 (Nat.le_refl _))
     have HXP1 := hid (HXP.out.on b1 (by simp; omega))
     have HYP1 := hid (HYP.out.on b1 (by simp))
     have lq : w.heap.size + 1 < w1.heap.size := by have := b1.size; simp at this; omega
     have lp : w.heap.size < w1.heap.size := by omega
     have c0 := HXP1.out 0 _ rfl
     have d0 := HYP1.out 0 _ rfl
     have c1 := HXP1.out 1 _ rfl
     have d1 := HYP1.out 1 _ rfl
     have c2 := HXP1.out 2 _ rfl
     have d2 := HYP1.out 2 _ rfl
     have c3 := HXP1.out 3 _ rfl
     have d3 := HYP1.out 3 _ rfl
     have c4 := HXP1.out 4 _ rfl
     have d4 := HYP1.out 4 _ rfl
     have c5 := HXP1.out 5 _ rfl
     have d5 := HYP1.out 5 _ rfl
     have c6 := HXP1.out 6 _ rfl
     have d6 := HYP1.out 6 _ rfl
     clear b1
     go_wp2_with fail
     go_ret
     exact ⟨ret_bool (by rw [HX.out, e0, e1, e2, e3]; simp), HB1.out⟩
    | true =>
     rw [e3] at HW
     have h4 := str_same x.body y.body
     cases e4 : (x.body == y.body) with
     | false =>
      rw [e4] at h4
      go_enter Tryz.func66, Tryz.ntmps66
      go_wp2_with fail
      refine (HW.out _ HPA.out HPB.out).mono ?_
      rintro e w1 ⟨rfl, b1⟩
      have HB1 := hid (bthen HB0.out b1 (Nat.le_refl _))
      have HXP1 := hid (HXP.out.on b1 (by simp; omega))
      have HYP1 := hid (HYP.out.on b1 (by simp))
      have lq : w.heap.size + 1 < w1.heap.size := by have := b1.size; simp at this; omega
      have lp : w.heap.size < w1.heap.size := by omega
      have c0 := HXP1.out 0 _ rfl
      have d0 := HYP1.out 0 _ rfl
      have c1 := HXP1.out 1 _ rfl
      have d1 := HYP1.out 1 _ rfl
      have c2 := HXP1.out 2 _ rfl
      have d2 := HYP1.out 2 _ rfl
      have c3 := HXP1.out 3 _ rfl
      have d3 := HYP1.out 3 _ rfl
      have c4 := HXP1.out 4 _ rfl
      have d4 := HYP1.out 4 _ rfl
      have c5 := HXP1.out 5 _ rfl
      have d5 := HYP1.out 5 _ rfl
      have c6 := HXP1.out 6 _ rfl
      have d6 := HYP1.out 6 _ rfl
      clear b1
      go_wp2_with fail
      go_ret
      exact ⟨ret_bool (by rw [HX.out, e0, e1, e2, e3, e4]; simp), HB1.out⟩
     | true =>
      rw [e4] at h4
      have h5 := cast_beq x.due y.due
      cases e5 : (x.due == y.due) with
      | false =>
       rw [e5] at h5
       go_enter Tryz.func66, Tryz.ntmps66
       go_wp2_with fail
       refine (HW.out _ HPA.out HPB.out).mono ?_
       rintro e w1 ⟨rfl, b1⟩
       have HB1 := hid (bthen HB0.out b1 (Nat.le_refl _))
       have HXP1 := hid (HXP.out.on b1 (by simp; omega))
       have HYP1 := hid (HYP.out.on b1 (by simp))
       have lq : w.heap.size + 1 < w1.heap.size := by have := b1.size; simp at this; omega
       have lp : w.heap.size < w1.heap.size := by omega
       have c0 := HXP1.out 0 _ rfl
       have d0 := HYP1.out 0 _ rfl
       have c1 := HXP1.out 1 _ rfl
       have d1 := HYP1.out 1 _ rfl
       have c2 := HXP1.out 2 _ rfl
       have d2 := HYP1.out 2 _ rfl
       have c3 := HXP1.out 3 _ rfl
       have d3 := HYP1.out 3 _ rfl
       have c4 := HXP1.out 4 _ rfl
       have d4 := HYP1.out 4 _ rfl
       have c5 := HXP1.out 5 _ rfl
       have d5 := HYP1.out 5 _ rfl
       have c6 := HXP1.out 6 _ rfl
       have d6 := HYP1.out 6 _ rfl
       clear b1
       go_wp2_with fail
       go_ret
       exact ⟨ret_bool (by rw [HX.out, e0, e1, e2, e3, e4, e5]; simp), HB1.out⟩
      | true =>
       rw [e5] at h5
       have h6 := cast_beq x.hops y.hops
       cases e6 : (x.hops == y.hops) with
       | false =>
        rw [e6] at h6
        go_enter Tryz.func66, Tryz.ntmps66
        go_wp2_with fail
        refine (HW.out _ HPA.out HPB.out).mono ?_
        rintro e w1 ⟨rfl, b1⟩
        have HB1 := hid (bthen HB0.out b1 (Nat.le_refl _))
        have HXP1 := hid (HXP.out.on b1 (by simp; omega))
        have HYP1 := hid (HYP.out.on b1 (by simp))
        have lq : w.heap.size + 1 < w1.heap.size := by have := b1.size; simp at this; omega
        have lp : w.heap.size < w1.heap.size := by omega
        have c0 := HXP1.out 0 _ rfl
        have d0 := HYP1.out 0 _ rfl
        have c1 := HXP1.out 1 _ rfl
        have d1 := HYP1.out 1 _ rfl
        have c2 := HXP1.out 2 _ rfl
        have d2 := HYP1.out 2 _ rfl
        have c3 := HXP1.out 3 _ rfl
        have d3 := HYP1.out 3 _ rfl
        have c4 := HXP1.out 4 _ rfl
        have d4 := HYP1.out 4 _ rfl
        have c5 := HXP1.out 5 _ rfl
        have d5 := HYP1.out 5 _ rfl
        have c6 := HXP1.out 6 _ rfl
        have d6 := HYP1.out 6 _ rfl
        clear b1
        go_wp2_with fail
        go_ret
        exact ⟨ret_bool (by rw [HX.out, e0, e1, e2, e3, e4, e5, e6]; simp), HB1.out⟩
       | true =>
        rw [e6] at h6
        go_enter Tryz.func66, Tryz.ntmps66
        go_wp2_with fail
        refine (HW.out _ HPA.out HPB.out).mono ?_
        rintro e w1 ⟨rfl, b1⟩
        have HB1 := hid (bthen HB0.out b1 (Nat.le_refl _))
        have HXP1 := hid (HXP.out.on b1 (by simp; omega))
        have HYP1 := hid (HYP.out.on b1 (by simp))
        have lq : w.heap.size + 1 < w1.heap.size := by have := b1.size; simp at this; omega
        have lp : w.heap.size < w1.heap.size := by omega
        have c0 := HXP1.out 0 _ rfl
        have d0 := HYP1.out 0 _ rfl
        have c1 := HXP1.out 1 _ rfl
        have d1 := HYP1.out 1 _ rfl
        have c2 := HXP1.out 2 _ rfl
        have d2 := HYP1.out 2 _ rfl
        have c3 := HXP1.out 3 _ rfl
        have d3 := HYP1.out 3 _ rfl
        have c4 := HXP1.out 4 _ rfl
        have d4 := HYP1.out 4 _ rfl
        have c5 := HXP1.out 5 _ rfl
        have d5 := HYP1.out 5 _ rfl
        have c6 := HXP1.out 6 _ rfl
        have d6 := HYP1.out 6 _ rfl
        clear b1
        go_wp2_with fail
        go_ret
        exact ⟨ret_bool (by rw [HX.out, e0, e1, e2, e3, e4, e5, e6]; simp), HB1.out⟩
end Go.Proofs.YtaikigponkjkgaaGreatDoor
end
