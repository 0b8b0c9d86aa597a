/-
  WHETHER TWO ARE THE SAME (replies): walked.
-/
import Derived.Test.YtnjlhafhgfpfiaaGreatDoorRb07
import Derived.Test.YtnjlhafhgfpfiaaGreatDoorRb16

section
namespace Go.Proofs.YtnjlhafhgfpfiaaGreatDoor
open Go.ChangeShapes Go.WideShapes Go.ChangeAt Go.RowKit
def mailSame (x y : Re) : Bool := (x.id == y.id) && (x.shop == y.shop) && (x.key == y.key) && decide (x.head = y.head) && (x.body == y.body) && (x.due == y.due) && (x.hops == y.hops)
theorem mailSame_self (x : Re) : mailSame x x = true := by unfold mailSame; simp
def reEq (x y : Re) : Bool := (x.ch.toNat == y.ch.toNat) && (x.kd.toNat == y.kd.toNat) && (x.n == y.n) && (x.m == y.m) && (x.yes == y.yes) && (x.name == y.name) && mailSame x y
theorem reEq_self (x : Re) : reEq x x = true := by unfold reEq; rw [mailSame_self]; simp
def mlV (x : Re) (A : Option Addr) (c : Nat) : Value := .agg #[.int .u64 (x.id : Int), .string (ofL x.shop), .string (ofL x.key), .slice A x.head.length c, .string (ofL x.body), .int .u64 (x.due : Int), .int .u8 (x.hops : Int)]
set_option maxRecDepth 100000 in
set_option maxHeartbeats 8000000 in
theorem re_sameMail_any (x y : Re) (A : Option Addr) (c : Nat) (B : Option Addr) (d : Nat) (w : World) (hl : x.head.length ≤ 100000) (hm : y.head.length ≤ 100000) (hA : Prs w A x.head) (hB : Prs w B y.head) :
    Calls Tryz.prog 36 #[mlV x A c, mlV y B d] w fun e w' => e = .returned (.bool (mailSame x y)) ∧ Below w.heap.size w w' := by
  have HB0 := Lib.hid (show Below w.heap.size w ((w.alloc (.cells #[.int .u64 (x.id : Int), .string (ofL x.shop), .string (ofL x.key), .slice A x.head.length c, .string (ofL x.body), .int .u64 (x.due : Int), .int .u8 (x.hops : Int)] 28)).alloc (.cells #[.int .u64 (y.id : Int), .string (ofL y.shop), .string (ofL y.key), .slice B y.head.length d, .string (ofL y.body), .int .u64 (y.due : Int), .int .u8 (y.hops : Int)] 28)) from ((Below.refl _ _).alloc (Nat.le_refl _) _).alloc (by simp) _)
  have HXP := Lib.hid (show Cels ((w.alloc (.cells #[.int .u64 (x.id : Int), .string (ofL x.shop), .string (ofL x.key), .slice A x.head.length c, .string (ofL x.body), .int .u64 (x.due : Int), .int .u8 (x.hops : Int)] 28)).alloc (.cells #[.int .u64 (y.id : Int), .string (ofL y.shop), .string (ofL y.key), .slice B y.head.length d, .string (ofL y.body), .int .u64 (y.due : Int), .int .u8 (y.hops : Int)] 28)) w.heap.size [.int .u64 (x.id : Int), .string (ofL x.shop), .string (ofL x.key), .slice A x.head.length c, .string (ofL x.body), .int .u64 (x.due : Int), .int .u8 (x.hops : Int)] from (Cels.new w #[.int .u64 (x.id : Int), .string (ofL x.shop), .string (ofL x.key), .slice A x.head.length c, .string (ofL x.body), .int .u64 (x.due : Int), .int .u8 (x.hops : Int)] 28).on ((Below.refl _ _).alloc (Nat.le_refl _) _) (by simp))
  have HYP := Lib.hid (show Cels ((w.alloc (.cells #[.int .u64 (x.id : Int), .string (ofL x.shop), .string (ofL x.key), .slice A x.head.length c, .string (ofL x.body), .int .u64 (x.due : Int), .int .u8 (x.hops : Int)] 28)).alloc (.cells #[.int .u64 (y.id : Int), .string (ofL y.shop), .string (ofL y.key), .slice B y.head.length d, .string (ofL y.body), .int .u64 (y.due : Int), .int .u8 (y.hops : Int)] 28)) (w.heap.size + 1) [.int .u64 (y.id : Int), .string (ofL y.shop), .string (ofL y.key), .slice B y.head.length d, .string (ofL y.body), .int .u64 (y.due : Int), .int .u8 (y.hops : Int)] by
    have := Cels.new (w.alloc (.cells #[.int .u64 (x.id : Int), .string (ofL x.shop), .string (ofL x.key), .slice A x.head.length c, .string (ofL x.body), .int .u64 (x.due : Int), .int .u8 (x.hops : Int)] 28)) #[.int .u64 (y.id : Int), .string (ofL y.shop), .string (ofL y.key), .slice B y.head.length d, .string (ofL y.body), .int .u64 (y.due : Int), .int .u8 (y.hops : Int)] 28
    simpa using this)
  have HPA := Lib.hid (hA.on HB0.out)
  have HPB := Lib.hid (hB.on HB0.out)
  have HW := Lib.hid (fun W h1 h2 => hsame_any x.head y.head A c B d W hl hm h1 h2)
  have HX : Hid (mailSame x y = ((x.id == y.id) && (x.shop == y.shop) && (x.key == y.key) && decide (x.head = y.head) && (x.body == y.body) && (x.due == y.due) && (x.hops == y.hops))) := rfl
  clear hA hB
  generalize mailSame x y = SB at *
  simp only [mlV] at *
  generalize decide (x.head = y.head) = M at *
  have h0 := cast_beq x.id y.id
  cases e0 : (x.id == y.id) with
  | false =>
    rw [e0] at h0
    go_enter Tryz.func36, Tryz.ntmps36
    go_wp2_with fail
    go_ret
    exact ⟨ret_bool (by rw [HX.out, e0]; simp), HB0.out⟩
  | true =>
    rw [e0] at h0
    have h1 := str_same x.shop y.shop
    cases e1 : (x.shop == y.shop) with
    | false =>
      rw [e1] at h1
      go_enter Tryz.func36, Tryz.ntmps36
      go_wp2_with fail
      go_ret
      exact ⟨ret_bool (by rw [HX.out, e0, e1]; simp), HB0.out⟩
    | true =>
      rw [e1] at h1
      have h2 := str_same x.key y.key
      cases e2 : (x.key == y.key) with
      | false =>
        rw [e2] at h2
        go_enter Tryz.func36, Tryz.ntmps36
        go_wp2_with fail
        go_ret
        exact ⟨ret_bool (by rw [HX.out, e0, e1, e2]; simp), HB0.out⟩
      | true =>
        rw [e2] at h2
        cases e3 : M with
        | false =>
          rw [e3] at HW
          go_enter Tryz.func36, Tryz.ntmps36
          go_wp2_with fail
          refine (HW.out _ HPA.out HPB.out).mono ?_
          rintro e w1 ⟨rfl, b1⟩
          have HB1 := Lib.hid (bthen HB0.out b1 (Nat.le_refl _))
          have HXP1 := Lib.hid (HXP.out.on b1 (by simp; omega))
          have HYP1 := Lib.hid (HYP.out.on b1 (by simp))
          have lq : w.heap.size + 1 < w1.heap.size := by have := b1.size; simp at this; omega
          have lp : w.heap.size < w1.heap.size := by omega
          have c0 := HXP1.out 0 _ rfl
          have d0 := HYP1.out 0 _ rfl
          have c1 := HXP1.out 1 _ rfl
          have d1 := HYP1.out 1 _ rfl
          have c2 := HXP1.out 2 _ rfl
          have d2 := HYP1.out 2 _ rfl
          have c3 := HXP1.out 3 _ rfl
          have d3 := HYP1.out 3 _ rfl
          have c4 := HXP1.out 4 _ rfl
          have d4 := HYP1.out 4 _ rfl
          have c5 := HXP1.out 5 _ rfl
          have d5 := HYP1.out 5 _ rfl
          have c6 := HXP1.out 6 _ rfl
          have d6 := HYP1.out 6 _ rfl
          clear b1
          go_wp2_with fail
          go_ret
          exact ⟨ret_bool (by rw [HX.out, e0, e1, e2, e3]; simp), HB1.out⟩
        | true =>
          rw [e3] at HW
          have h4 := str_same x.body y.body
          cases e4 : (x.body == y.body) with
          | false =>
            rw [e4] at h4
            go_enter Tryz.func36, Tryz.ntmps36
            go_wp2_with fail
            refine (HW.out _ HPA.out HPB.out).mono ?_
            rintro e w1 ⟨rfl, b1⟩
            have HB1 := Lib.hid (bthen HB0.out b1 (Nat.le_refl _))
            have HXP1 := Lib.hid (HXP.out.on b1 (by simp; omega))
            have HYP1 := Lib.hid (HYP.out.on b1 (by simp))
            have lq : w.heap.size + 1 < w1.heap.size := by have := b1.size; simp at this; omega
            have lp : w.heap.size < w1.heap.size := by omega
            have c0 := HXP1.out 0 _ rfl
            have d0 := HYP1.out 0 _ rfl
            have c1 := HXP1.out 1 _ rfl
            have d1 := HYP1.out 1 _ rfl
            have c2 := HXP1.out 2 _ rfl
            have d2 := HYP1.out 2 _ rfl
            have c3 := HXP1.out 3 _ rfl
            have d3 := HYP1.out 3 _ rfl
            have c4 := HXP1.out 4 _ rfl
            have d4 := HYP1.out 4 _ rfl
            have c5 := HXP1.out 5 _ rfl
            have d5 := HYP1.out 5 _ rfl
            have c6 := HXP1.out 6 _ rfl
            have d6 := HYP1.out 6 _ rfl
            clear b1
            go_wp2_with fail
            go_ret
            exact ⟨ret_bool (by rw [HX.out, e0, e1, e2, e3, e4]; simp), HB1.out⟩
          | true =>
            rw [e4] at h4
            have h5 := cast_beq x.due y.due
            cases e5 : (x.due == y.due) with
            | false =>
              rw [e5] at h5
              go_enter Tryz.func36, Tryz.ntmps36
              go_wp2_with fail
              refine (HW.out _ HPA.out HPB.out).mono ?_
              rintro e w1 ⟨rfl, b1⟩
              have HB1 := Lib.hid (bthen HB0.out b1 (Nat.le_refl _))
              have HXP1 := Lib.hid (HXP.out.on b1 (by simp; omega))
              have HYP1 := Lib.hid (HYP.out.on b1 (by simp))
              have lq : w.heap.size + 1 < w1.heap.size := by have := b1.size; simp at this; omega
              have lp : w.heap.size < w1.heap.size := by omega
              have c0 := HXP1.out 0 _ rfl
              have d0 := HYP1.out 0 _ rfl
              have c1 := HXP1.out 1 _ rfl
              have d1 := HYP1.out 1 _ rfl
              have c2 := HXP1.out 2 _ rfl
              have d2 := HYP1.out 2 _ rfl
              have c3 := HXP1.out 3 _ rfl
              have d3 := HYP1.out 3 _ rfl
              have c4 := HXP1.out 4 _ rfl
              have d4 := HYP1.out 4 _ rfl
              have c5 := HXP1.out 5 _ rfl
              have d5 := HYP1.out 5 _ rfl
              have c6 := HXP1.out 6 _ rfl
              have d6 := HYP1.out 6 _ rfl
              clear b1
              go_wp2_with fail
              go_ret
              exact ⟨ret_bool (by rw [HX.out, e0, e1, e2, e3, e4, e5]; simp), HB1.out⟩
            | true =>
              rw [e5] at h5
              have h6 := cast_beq x.hops y.hops
              cases e6 : (x.hops == y.hops) with
              | false =>
                rw [e6] at h6
                go_enter Tryz.func36, Tryz.ntmps36
                go_wp2_with fail
                refine (HW.out _ HPA.out HPB.out).mono ?_
                rintro e w1 ⟨rfl, b1⟩
                have HB1 := Lib.hid (bthen HB0.out b1 (Nat.le_refl _))
                have HXP1 := Lib.hid (HXP.out.on b1 (by simp; omega))
                have HYP1 := Lib.hid (HYP.out.on b1 (by simp))
                have lq : w.heap.size + 1 < w1.heap.size := by have := b1.size; simp at this; omega
                have lp : w.heap.size < w1.heap.size := by omega
                have c0 := HXP1.out 0 _ rfl
                have d0 := HYP1.out 0 _ rfl
                have c1 := HXP1.out 1 _ rfl
                have d1 := HYP1.out 1 _ rfl
                have c2 := HXP1.out 2 _ rfl
                have d2 := HYP1.out 2 _ rfl
                have c3 := HXP1.out 3 _ rfl
                have d3 := HYP1.out 3 _ rfl
                have c4 := HXP1.out 4 _ rfl
                have d4 := HYP1.out 4 _ rfl
                have c5 := HXP1.out 5 _ rfl
                have d5 := HYP1.out 5 _ rfl
                have c6 := HXP1.out 6 _ rfl
                have d6 := HYP1.out 6 _ rfl
                clear b1
                go_wp2_with fail
                go_ret
                exact ⟨ret_bool (by rw [HX.out, e0, e1, e2, e3, e4, e5, e6]; simp), HB1.out⟩
              | true =>
                rw [e6] at h6
                go_enter Tryz.func36, Tryz.ntmps36
                go_wp2_with fail
                refine (HW.out _ HPA.out HPB.out).mono ?_
                rintro e w1 ⟨rfl, b1⟩
                have HB1 := Lib.hid (bthen HB0.out b1 (Nat.le_refl _))
                have HXP1 := Lib.hid (HXP.out.on b1 (by simp; omega))
                have HYP1 := Lib.hid (HYP.out.on b1 (by simp))
                have lq : w.heap.size + 1 < w1.heap.size := by have := b1.size; simp at this; omega
                have lp : w.heap.size < w1.heap.size := by omega
                have c0 := HXP1.out 0 _ rfl
                have d0 := HYP1.out 0 _ rfl
                have c1 := HXP1.out 1 _ rfl
                have d1 := HYP1.out 1 _ rfl
                have c2 := HXP1.out 2 _ rfl
                have d2 := HYP1.out 2 _ rfl
                have c3 := HXP1.out 3 _ rfl
                have d3 := HYP1.out 3 _ rfl
                have c4 := HXP1.out 4 _ rfl
                have d4 := HYP1.out 4 _ rfl
                have c5 := HXP1.out 5 _ rfl
                have d5 := HYP1.out 5 _ rfl
                have c6 := HXP1.out 6 _ rfl
                have d6 := HYP1.out 6 _ rfl
                clear b1
                go_wp2_with fail
                go_ret
                exact ⟨ret_bool (by rw [HX.out, e0, e1, e2, e3, e4, e5, e6]; simp), HB1.out⟩
set_option maxRecDepth 100000 in
set_option maxHeartbeats 8000000 in
theorem re_Same_any (x y : Re) (A : Option Addr) (c : Nat) (B : Option Addr) (d : Nat) (w : World) (hl : x.head.length ≤ 100000) (hm : y.head.length ≤ 100000) (hA : Prs w A x.head) (hB : Prs w B y.head) :
    Calls Tryz.prog 15 #[reV x A c, reV y B d] w fun e w' => e = .returned (.bool (reEq x y)) ∧ Below w.heap.size w w' := by
  have HB0 := Lib.hid (show Below w.heap.size w ((w.alloc (.cells #[.int .u8 (x.ch.toNat : Int), .int .u8 (x.kd.toNat : Int), .int .u64 (x.n : Int), .int .u64 (x.m : Int), .bool x.yes, .string (ofL x.name), .int .u64 (x.id : Int), .string (ofL x.shop), .string (ofL x.key), .slice A x.head.length c, .string (ofL x.body), .int .u64 (x.due : Int), .int .u8 (x.hops : Int)] 30)).alloc (.cells #[.int .u8 (y.ch.toNat : Int), .int .u8 (y.kd.toNat : Int), .int .u64 (y.n : Int), .int .u64 (y.m : Int), .bool y.yes, .string (ofL y.name), .int .u64 (y.id : Int), .string (ofL y.shop), .string (ofL y.key), .slice B y.head.length d, .string (ofL y.body), .int .u64 (y.due : Int), .int .u8 (y.hops : Int)] 30)) from ((Below.refl _ _).alloc (Nat.le_refl _) _).alloc (by simp) _)
  have HXP := Lib.hid (show Cels ((w.alloc (.cells #[.int .u8 (x.ch.toNat : Int), .int .u8 (x.kd.toNat : Int), .int .u64 (x.n : Int), .int .u64 (x.m : Int), .bool x.yes, .string (ofL x.name), .int .u64 (x.id : Int), .string (ofL x.shop), .string (ofL x.key), .slice A x.head.length c, .string (ofL x.body), .int .u64 (x.due : Int), .int .u8 (x.hops : Int)] 30)).alloc (.cells #[.int .u8 (y.ch.toNat : Int), .int .u8 (y.kd.toNat : Int), .int .u64 (y.n : Int), .int .u64 (y.m : Int), .bool y.yes, .string (ofL y.name), .int .u64 (y.id : Int), .string (ofL y.shop), .string (ofL y.key), .slice B y.head.length d, .string (ofL y.body), .int .u64 (y.due : Int), .int .u8 (y.hops : Int)] 30)) w.heap.size [.int .u8 (x.ch.toNat : Int), .int .u8 (x.kd.toNat : Int), .int .u64 (x.n : Int), .int .u64 (x.m : Int), .bool x.yes, .string (ofL x.name), .int .u64 (x.id : Int), .string (ofL x.shop), .string (ofL x.key), .slice A x.head.length c, .string (ofL x.body), .int .u64 (x.due : Int), .int .u8 (x.hops : Int)] from (Cels.new w #[.int .u8 (x.ch.toNat : Int), .int .u8 (x.kd.toNat : Int), .int .u64 (x.n : Int), .int .u64 (x.m : Int), .bool x.yes, .string (ofL x.name), .int .u64 (x.id : Int), .string (ofL x.shop), .string (ofL x.key), .slice A x.head.length c, .string (ofL x.body), .int .u64 (x.due : Int), .int .u8 (x.hops : Int)] 30).on ((Below.refl _ _).alloc (Nat.le_refl _) _) (by simp))
  have HYP := Lib.hid (show Cels ((w.alloc (.cells #[.int .u8 (x.ch.toNat : Int), .int .u8 (x.kd.toNat : Int), .int .u64 (x.n : Int), .int .u64 (x.m : Int), .bool x.yes, .string (ofL x.name), .int .u64 (x.id : Int), .string (ofL x.shop), .string (ofL x.key), .slice A x.head.length c, .string (ofL x.body), .int .u64 (x.due : Int), .int .u8 (x.hops : Int)] 30)).alloc (.cells #[.int .u8 (y.ch.toNat : Int), .int .u8 (y.kd.toNat : Int), .int .u64 (y.n : Int), .int .u64 (y.m : Int), .bool y.yes, .string (ofL y.name), .int .u64 (y.id : Int), .string (ofL y.shop), .string (ofL y.key), .slice B y.head.length d, .string (ofL y.body), .int .u64 (y.due : Int), .int .u8 (y.hops : Int)] 30)) (w.heap.size + 1) [.int .u8 (y.ch.toNat : Int), .int .u8 (y.kd.toNat : Int), .int .u64 (y.n : Int), .int .u64 (y.m : Int), .bool y.yes, .string (ofL y.name), .int .u64 (y.id : Int), .string (ofL y.shop), .string (ofL y.key), .slice B y.head.length d, .string (ofL y.body), .int .u64 (y.due : Int), .int .u8 (y.hops : Int)] by
    have := Cels.new (w.alloc (.cells #[.int .u8 (x.ch.toNat : Int), .int .u8 (x.kd.toNat : Int), .int .u64 (x.n : Int), .int .u64 (x.m : Int), .bool x.yes, .string (ofL x.name), .int .u64 (x.id : Int), .string (ofL x.shop), .string (ofL x.key), .slice A x.head.length c, .string (ofL x.body), .int .u64 (x.due : Int), .int .u8 (x.hops : Int)] 30)) #[.int .u8 (y.ch.toNat : Int), .int .u8 (y.kd.toNat : Int), .int .u64 (y.n : Int), .int .u64 (y.m : Int), .bool y.yes, .string (ofL y.name), .int .u64 (y.id : Int), .string (ofL y.shop), .string (ofL y.key), .slice B y.head.length d, .string (ofL y.body), .int .u64 (y.due : Int), .int .u8 (y.hops : Int)] 30
    simpa using this)
  have HPA := Lib.hid (hA.on HB0.out)
  have HPB := Lib.hid (hB.on HB0.out)
  have HW := Lib.hid (fun W h1 h2 => re_sameMail_any x y A c B d W hl hm h1 h2)
  have HX : Hid (reEq x y = ((x.ch.toNat == y.ch.toNat) && (x.kd.toNat == y.kd.toNat) && (x.n == y.n) && (x.m == y.m) && (x.yes == y.yes) && (x.name == y.name) && mailSame x y)) := rfl
  clear hA hB
  generalize reEq x y = SB at *
  simp only [reV, mlV] at *
  generalize mailSame x y = M at *
  have h0 := cast_beq x.ch.toNat y.ch.toNat
  cases e0 : (x.ch.toNat == y.ch.toNat) with
  | false =>
    rw [e0] at h0
    go_enter Tryz.func15, Tryz.ntmps15
    go_wp2_with fail
    go_ret
    exact ⟨ret_bool (by rw [HX.out, e0]; simp), HB0.out⟩
  | true =>
    rw [e0] at h0
    have h1 := cast_beq x.kd.toNat y.kd.toNat
    cases e1 : (x.kd.toNat == y.kd.toNat) with
    | false =>
      rw [e1] at h1
      go_enter Tryz.func15, Tryz.ntmps15
      go_wp2_with fail
      go_ret
      exact ⟨ret_bool (by rw [HX.out, e0, e1]; simp), HB0.out⟩
    | true =>
      rw [e1] at h1
      have h2 := cast_beq x.n y.n
      cases e2 : (x.n == y.n) with
      | false =>
        rw [e2] at h2
        go_enter Tryz.func15, Tryz.ntmps15
        go_wp2_with fail
        go_ret
        exact ⟨ret_bool (by rw [HX.out, e0, e1, e2]; simp), HB0.out⟩
      | true =>
        rw [e2] at h2
        have h3 := cast_beq x.m y.m
        cases e3 : (x.m == y.m) with
        | false =>
          rw [e3] at h3
          go_enter Tryz.func15, Tryz.ntmps15
          go_wp2_with fail
          go_ret
          exact ⟨ret_bool (by rw [HX.out, e0, e1, e2, e3]; simp), HB0.out⟩
        | true =>
          rw [e3] at h3
          have h4 : (x.yes == y.yes) = (x.yes == y.yes) := rfl
          cases e4 : (x.yes == y.yes) with
          | false =>
            rw [e4] at h4
            go_enter Tryz.func15, Tryz.ntmps15
            go_wp2_with fail
            go_ret
            exact ⟨ret_bool (by rw [HX.out, e0, e1, e2, e3, e4]; simp), HB0.out⟩
          | true =>
            rw [e4] at h4
            have h5 := str_same x.name y.name
            cases e5 : (x.name == y.name) with
            | false =>
              rw [e5] at h5
              go_enter Tryz.func15, Tryz.ntmps15
              go_wp2_with fail
              go_ret
              exact ⟨ret_bool (by rw [HX.out, e0, e1, e2, e3, e4, e5]; simp), HB0.out⟩
            | true =>
              rw [e5] at h5
              go_enter Tryz.func15, Tryz.ntmps15
              go_wp2_with fail
              refine (HW.out _ HPA.out HPB.out).mono ?_
              rintro e w1 ⟨rfl, b1⟩
              have HB1 := Lib.hid (bthen HB0.out b1 (Nat.le_refl _))
              clear b1
              go_wp2_with fail
              go_ret
              exact ⟨ret_bool (by rw [HX.out, e0, e1, e2, e3, e4, e5]; simp), HB1.out⟩
end Go.Proofs.YtnjlhafhgfpfiaaGreatDoor
end
