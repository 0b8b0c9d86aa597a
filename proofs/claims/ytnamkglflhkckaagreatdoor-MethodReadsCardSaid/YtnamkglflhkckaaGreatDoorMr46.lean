/-
  WHETHER TWO ARE THE SAME (methods): walked.
-/
import Derived.Test.YtnamkglflhkckaaGreatDoorMr04
import Derived.Test.YtnamkglflhkckaaGreatDoorMr10

section
namespace Go.Proofs.YtnamkglflhkckaaGreatDoor
open Go.ChangeShapes Go.WideShapes Go.ChangeAt Go.RowKit
def meEq (x y : Me) : Bool := (x.ch.toNat == y.ch.toNat) && (x.kd.toNat == y.kd.toNat) && (x.name == y.name) && (x.other == y.other) && (x.key == y.key) && decide (x.head = y.head) && (x.body == y.body) && (x.n == y.n) && (x.m == y.m) && (x.yes == y.yes)
theorem meEq_self (x : Me) : meEq x x = true := by unfold meEq; simp
set_option maxRecDepth 100000 in
set_option maxHeartbeats 8000000 in
theorem r11Same_any (x y : Me) (A : Option Addr) (c : Nat) (B : Option Addr) (d : Nat) (w : World) (hl : x.head.length ≤ 100000) (hm : y.head.length ≤ 100000) (hA : Prs w A x.head) (hB : Prs w B y.head) :
    Calls Tryz.prog 20 #[meV x A c, meV y B d] w fun e w' => e = .returned (.bool (meEq x y)) ∧ Below w.heap.size w w' := by
  have HB0 := Lib.hid (show Below w.heap.size w ((w.alloc (.cells #[.int .u8 (x.ch.toNat : Int), .int .u8 (x.kd.toNat : Int), .string (ofL x.name), .string (ofL x.other), .string (ofL x.key), .slice A x.head.length c, .string (ofL x.body), .int .u64 (x.n : Int), .int .u64 (x.m : Int), .bool x.yes] 29)).alloc (.cells #[.int .u8 (y.ch.toNat : Int), .int .u8 (y.kd.toNat : Int), .string (ofL y.name), .string (ofL y.other), .string (ofL y.key), .slice B y.head.length d, .string (ofL y.body), .int .u64 (y.n : Int), .int .u64 (y.m : Int), .bool y.yes] 29)) from ((Below.refl _ _).alloc (Nat.le_refl _) _).alloc (by simp) _)
  have HXP := Lib.hid (show Cels ((w.alloc (.cells #[.int .u8 (x.ch.toNat : Int), .int .u8 (x.kd.toNat : Int), .string (ofL x.name), .string (ofL x.other), .string (ofL x.key), .slice A x.head.length c, .string (ofL x.body), .int .u64 (x.n : Int), .int .u64 (x.m : Int), .bool x.yes] 29)).alloc (.cells #[.int .u8 (y.ch.toNat : Int), .int .u8 (y.kd.toNat : Int), .string (ofL y.name), .string (ofL y.other), .string (ofL y.key), .slice B y.head.length d, .string (ofL y.body), .int .u64 (y.n : Int), .int .u64 (y.m : Int), .bool y.yes] 29)) w.heap.size [.int .u8 (x.ch.toNat : Int), .int .u8 (x.kd.toNat : Int), .string (ofL x.name), .string (ofL x.other), .string (ofL x.key), .slice A x.head.length c, .string (ofL x.body), .int .u64 (x.n : Int), .int .u64 (x.m : Int), .bool x.yes] from (Cels.new w #[.int .u8 (x.ch.toNat : Int), .int .u8 (x.kd.toNat : Int), .string (ofL x.name), .string (ofL x.other), .string (ofL x.key), .slice A x.head.length c, .string (ofL x.body), .int .u64 (x.n : Int), .int .u64 (x.m : Int), .bool x.yes] 29).on ((Below.refl _ _).alloc (Nat.le_refl _) _) (by simp))
  have HYP := Lib.hid (show Cels ((w.alloc (.cells #[.int .u8 (x.ch.toNat : Int), .int .u8 (x.kd.toNat : Int), .string (ofL x.name), .string (ofL x.other), .string (ofL x.key), .slice A x.head.length c, .string (ofL x.body), .int .u64 (x.n : Int), .int .u64 (x.m : Int), .bool x.yes] 29)).alloc (.cells #[.int .u8 (y.ch.toNat : Int), .int .u8 (y.kd.toNat : Int), .string (ofL y.name), .string (ofL y.other), .string (ofL y.key), .slice B y.head.length d, .string (ofL y.body), .int .u64 (y.n : Int), .int .u64 (y.m : Int), .bool y.yes] 29)) (w.heap.size + 1) [.int .u8 (y.ch.toNat : Int), .int .u8 (y.kd.toNat : Int), .string (ofL y.name), .string (ofL y.other), .string (ofL y.key), .slice B y.head.length d, .string (ofL y.body), .int .u64 (y.n : Int), .int .u64 (y.m : Int), .bool y.yes] by
    have := Cels.new (w.alloc (.cells #[.int .u8 (x.ch.toNat : Int), .int .u8 (x.kd.toNat : Int), .string (ofL x.name), .string (ofL x.other), .string (ofL x.key), .slice A x.head.length c, .string (ofL x.body), .int .u64 (x.n : Int), .int .u64 (x.m : Int), .bool x.yes] 29)) #[.int .u8 (y.ch.toNat : Int), .int .u8 (y.kd.toNat : Int), .string (ofL y.name), .string (ofL y.other), .string (ofL y.key), .slice B y.head.length d, .string (ofL y.body), .int .u64 (y.n : Int), .int .u64 (y.m : Int), .bool y.yes] 29
    simpa using this)
  have HPA := Lib.hid (hA.on HB0.out)
  have HPB := Lib.hid (hB.on HB0.out)
  have HW := Lib.hid (fun W h1 h2 => rsame9_any x.head y.head A c B d W hl hm h1 h2)
  have HX : Hid (meEq x y = ((x.ch.toNat == y.ch.toNat) && (x.kd.toNat == y.kd.toNat) && (x.name == y.name) && (x.other == y.other) && (x.key == y.key) && decide (x.head = y.head) && (x.body == y.body) && (x.n == y.n) && (x.m == y.m) && (x.yes == y.yes))) := rfl
  clear hA hB
  generalize meEq x y = SB at *
  simp only [meV] at *
  generalize decide (x.head = y.head) = M at *
  have h0 := cast_beq x.ch.toNat y.ch.toNat
  cases e0 : (x.ch.toNat == y.ch.toNat) with
  | false =>
    rw [e0] at h0
    go_enter Tryz.func20, Tryz.ntmps20
    go_wp2_with fail
    go_ret
    exact ⟨ret_bool (by rw [HX.out, e0]; simp), HB0.out⟩
  | true =>
    rw [e0] at h0
    have h1 := cast_beq x.kd.toNat y.kd.toNat
    cases e1 : (x.kd.toNat == y.kd.toNat) with
    | false =>
      rw [e1] at h1
      go_enter Tryz.func20, Tryz.ntmps20
      go_wp2_with fail
      go_ret
      exact ⟨ret_bool (by rw [HX.out, e0, e1]; simp), HB0.out⟩
    | true =>
      rw [e1] at h1
      have h2 := str_same x.name y.name
      cases e2 : (x.name == y.name) with
      | false =>
        rw [e2] at h2
        go_enter Tryz.func20, Tryz.ntmps20
        go_wp2_with fail
        go_ret
        exact ⟨ret_bool (by rw [HX.out, e0, e1, e2]; simp), HB0.out⟩
      | true =>
        rw [e2] at h2
        have h3 := str_same x.other y.other
        cases e3 : (x.other == y.other) with
        | false =>
          rw [e3] at h3
          go_enter Tryz.func20, Tryz.ntmps20
          go_wp2_with fail
          go_ret
          exact ⟨ret_bool (by rw [HX.out, e0, e1, e2, e3]; simp), HB0.out⟩
        | true =>
          rw [e3] at h3
          have h4 := str_same x.key y.key
          cases e4 : (x.key == y.key) with
          | false =>
            rw [e4] at h4
            go_enter Tryz.func20, Tryz.ntmps20
            go_wp2_with fail
            go_ret
            exact ⟨ret_bool (by rw [HX.out, e0, e1, e2, e3, e4]; simp), HB0.out⟩
          | true =>
            rw [e4] at h4
            cases e5 : M with
            | false =>
              rw [e5] at HW
              go_enter Tryz.func20, Tryz.ntmps20
              go_wp2_with fail
              refine (HW.out _ HPA.out HPB.out).mono ?_
              rintro e w1 ⟨rfl, b1⟩
              have HB1 := Lib.hid (bthen HB0.out b1 (Nat.le_refl _))
              have HXP1 := Lib.hid (HXP.out.on b1 (by simp; omega))
              have HYP1 := Lib.hid (HYP.out.on b1 (by simp))
              have lq : w.heap.size + 1 < w1.heap.size := by have := b1.size; simp at this; omega
              have lp : w.heap.size < w1.heap.size := by omega
              have c0 := HXP1.out 0 _ rfl
              have d0 := HYP1.out 0 _ rfl
              have c1 := HXP1.out 1 _ rfl
              have d1 := HYP1.out 1 _ rfl
              have c2 := HXP1.out 2 _ rfl
              have d2 := HYP1.out 2 _ rfl
              have c3 := HXP1.out 3 _ rfl
              have d3 := HYP1.out 3 _ rfl
              have c4 := HXP1.out 4 _ rfl
              have d4 := HYP1.out 4 _ rfl
              have c5 := HXP1.out 5 _ rfl
              have d5 := HYP1.out 5 _ rfl
              have c6 := HXP1.out 6 _ rfl
              have d6 := HYP1.out 6 _ rfl
              have c7 := HXP1.out 7 _ rfl
              have d7 := HYP1.out 7 _ rfl
              have c8 := HXP1.out 8 _ rfl
              have d8 := HYP1.out 8 _ rfl
              have c9 := HXP1.out 9 _ rfl
              have d9 := HYP1.out 9 _ rfl
              clear b1
              go_wp2_with fail
              go_ret
              exact ⟨ret_bool (by rw [HX.out, e0, e1, e2, e3, e4, e5]; simp), HB1.out⟩
            | true =>
              rw [e5] at HW
              have h6 := str_same x.body y.body
              cases e6 : (x.body == y.body) with
              | false =>
                rw [e6] at h6
                go_enter Tryz.func20, Tryz.ntmps20
                go_wp2_with fail
                refine (HW.out _ HPA.out HPB.out).mono ?_
                rintro e w1 ⟨rfl, b1⟩
                have HB1 := Lib.hid (bthen HB0.out b1 (Nat.le_refl _))
                have HXP1 := Lib.hid (HXP.out.on b1 (by simp; omega))
                have HYP1 := Lib.hid (HYP.out.on b1 (by simp))
                have lq : w.heap.size + 1 < w1.heap.size := by have := b1.size; simp at this; omega
                have lp : w.heap.size < w1.heap.size := by omega
                have c0 := HXP1.out 0 _ rfl
                have d0 := HYP1.out 0 _ rfl
                have c1 := HXP1.out 1 _ rfl
                have d1 := HYP1.out 1 _ rfl
                have c2 := HXP1.out 2 _ rfl
                have d2 := HYP1.out 2 _ rfl
                have c3 := HXP1.out 3 _ rfl
                have d3 := HYP1.out 3 _ rfl
                have c4 := HXP1.out 4 _ rfl
                have d4 := HYP1.out 4 _ rfl
                have c5 := HXP1.out 5 _ rfl
                have d5 := HYP1.out 5 _ rfl
                have c6 := HXP1.out 6 _ rfl
                have d6 := HYP1.out 6 _ rfl
                have c7 := HXP1.out 7 _ rfl
                have d7 := HYP1.out 7 _ rfl
                have c8 := HXP1.out 8 _ rfl
                have d8 := HYP1.out 8 _ rfl
                have c9 := HXP1.out 9 _ rfl
                have d9 := HYP1.out 9 _ rfl
                clear b1
                go_wp2_with fail
                go_ret
                exact ⟨ret_bool (by rw [HX.out, e0, e1, e2, e3, e4, e5, e6]; simp), HB1.out⟩
              | true =>
                rw [e6] at h6
                have h7 := cast_beq x.n y.n
                cases e7 : (x.n == y.n) with
                | false =>
                  rw [e7] at h7
                  go_enter Tryz.func20, Tryz.ntmps20
                  go_wp2_with fail
                  refine (HW.out _ HPA.out HPB.out).mono ?_
                  rintro e w1 ⟨rfl, b1⟩
                  have HB1 := Lib.hid (bthen HB0.out b1 (Nat.le_refl _))
                  have HXP1 := Lib.hid (HXP.out.on b1 (by simp; omega))
                  have HYP1 := Lib.hid (HYP.out.on b1 (by simp))
                  have lq : w.heap.size + 1 < w1.heap.size := by have := b1.size; simp at this; omega
                  have lp : w.heap.size < w1.heap.size := by omega
                  have c0 := HXP1.out 0 _ rfl
                  have d0 := HYP1.out 0 _ rfl
                  have c1 := HXP1.out 1 _ rfl
                  have d1 := HYP1.out 1 _ rfl
                  have c2 := HXP1.out 2 _ rfl
                  have d2 := HYP1.out 2 _ rfl
                  have c3 := HXP1.out 3 _ rfl
                  have d3 := HYP1.out 3 _ rfl
                  have c4 := HXP1.out 4 _ rfl
                  have d4 := HYP1.out 4 _ rfl
                  have c5 := HXP1.out 5 _ rfl
                  have d5 := HYP1.out 5 _ rfl
                  have c6 := HXP1.out 6 _ rfl
                  have d6 := HYP1.out 6 _ rfl
                  have c7 := HXP1.out 7 _ rfl
                  have d7 := HYP1.out 7 _ rfl
                  have c8 := HXP1.out 8 _ rfl
                  have d8 := HYP1.out 8 _ rfl
                  have c9 := HXP1.out 9 _ rfl
                  have d9 := HYP1.out 9 _ rfl
                  clear b1
                  go_wp2_with fail
                  go_ret
                  exact ⟨ret_bool (by rw [HX.out, e0, e1, e2, e3, e4, e5, e6, e7]; simp), HB1.out⟩
                | true =>
                  rw [e7] at h7
                  have h8 := cast_beq x.m y.m
                  cases e8 : (x.m == y.m) with
                  | false =>
                    rw [e8] at h8
                    go_enter Tryz.func20, Tryz.ntmps20
                    go_wp2_with fail
                    refine (HW.out _ HPA.out HPB.out).mono ?_
                    rintro e w1 ⟨rfl, b1⟩
                    have HB1 := Lib.hid (bthen HB0.out b1 (Nat.le_refl _))
                    have HXP1 := Lib.hid (HXP.out.on b1 (by simp; omega))
                    have HYP1 := Lib.hid (HYP.out.on b1 (by simp))
                    have lq : w.heap.size + 1 < w1.heap.size := by have := b1.size; simp at this; omega
                    have lp : w.heap.size < w1.heap.size := by omega
                    have c0 := HXP1.out 0 _ rfl
                    have d0 := HYP1.out 0 _ rfl
                    have c1 := HXP1.out 1 _ rfl
                    have d1 := HYP1.out 1 _ rfl
                    have c2 := HXP1.out 2 _ rfl
                    have d2 := HYP1.out 2 _ rfl
                    have c3 := HXP1.out 3 _ rfl
                    have d3 := HYP1.out 3 _ rfl
                    have c4 := HXP1.out 4 _ rfl
                    have d4 := HYP1.out 4 _ rfl
                    have c5 := HXP1.out 5 _ rfl
                    have d5 := HYP1.out 5 _ rfl
                    have c6 := HXP1.out 6 _ rfl
                    have d6 := HYP1.out 6 _ rfl
                    have c7 := HXP1.out 7 _ rfl
                    have d7 := HYP1.out 7 _ rfl
                    have c8 := HXP1.out 8 _ rfl
                    have d8 := HYP1.out 8 _ rfl
                    have c9 := HXP1.out 9 _ rfl
                    have d9 := HYP1.out 9 _ rfl
                    clear b1
                    go_wp2_with fail
                    go_ret
                    exact ⟨ret_bool (by rw [HX.out, e0, e1, e2, e3, e4, e5, e6, e7, e8]; simp), HB1.out⟩
                  | true =>
                    rw [e8] at h8
                    have h9 : (x.yes == y.yes) = (x.yes == y.yes) := rfl
                    cases e9 : (x.yes == y.yes) with
                    | false =>
                      rw [e9] at h9
                      go_enter Tryz.func20, Tryz.ntmps20
                      go_wp2_with fail
                      refine (HW.out _ HPA.out HPB.out).mono ?_
                      rintro e w1 ⟨rfl, b1⟩
                      have HB1 := Lib.hid (bthen HB0.out b1 (Nat.le_refl _))
                      have HXP1 := Lib.hid (HXP.out.on b1 (by simp; omega))
                      have HYP1 := Lib.hid (HYP.out.on b1 (by simp))
                      have lq : w.heap.size + 1 < w1.heap.size := by have := b1.size; simp at this; omega
                      have lp : w.heap.size < w1.heap.size := by omega
                      have c0 := HXP1.out 0 _ rfl
                      have d0 := HYP1.out 0 _ rfl
                      have c1 := HXP1.out 1 _ rfl
                      have d1 := HYP1.out 1 _ rfl
                      have c2 := HXP1.out 2 _ rfl
                      have d2 := HYP1.out 2 _ rfl
                      have c3 := HXP1.out 3 _ rfl
                      have d3 := HYP1.out 3 _ rfl
                      have c4 := HXP1.out 4 _ rfl
                      have d4 := HYP1.out 4 _ rfl
                      have c5 := HXP1.out 5 _ rfl
                      have d5 := HYP1.out 5 _ rfl
                      have c6 := HXP1.out 6 _ rfl
                      have d6 := HYP1.out 6 _ rfl
                      have c7 := HXP1.out 7 _ rfl
                      have d7 := HYP1.out 7 _ rfl
                      have c8 := HXP1.out 8 _ rfl
                      have d8 := HYP1.out 8 _ rfl
                      have c9 := HXP1.out 9 _ rfl
                      have d9 := HYP1.out 9 _ rfl
                      clear b1
                      go_wp2_with fail
                      go_ret
                      exact ⟨ret_bool (by rw [HX.out, e0, e1, e2, e3, e4, e5, e6, e7, e8, e9]; simp), HB1.out⟩
                    | true =>
                      rw [e9] at h9
                      go_enter Tryz.func20, Tryz.ntmps20
                      go_wp2_with fail
                      refine (HW.out _ HPA.out HPB.out).mono ?_
                      rintro e w1 ⟨rfl, b1⟩
                      have HB1 := Lib.hid (bthen HB0.out b1 (Nat.le_refl _))
                      have HXP1 := Lib.hid (HXP.out.on b1 (by simp; omega))
                      have HYP1 := Lib.hid (HYP.out.on b1 (by simp))
                      have lq : w.heap.size + 1 < w1.heap.size := by have := b1.size; simp at this; omega
                      have lp : w.heap.size < w1.heap.size := by omega
                      have c0 := HXP1.out 0 _ rfl
                      have d0 := HYP1.out 0 _ rfl
                      have c1 := HXP1.out 1 _ rfl
                      have d1 := HYP1.out 1 _ rfl
                      have c2 := HXP1.out 2 _ rfl
                      have d2 := HYP1.out 2 _ rfl
                      have c3 := HXP1.out 3 _ rfl
                      have d3 := HYP1.out 3 _ rfl
                      have c4 := HXP1.out 4 _ rfl
                      have d4 := HYP1.out 4 _ rfl
                      have c5 := HXP1.out 5 _ rfl
                      have d5 := HYP1.out 5 _ rfl
                      have c6 := HXP1.out 6 _ rfl
                      have d6 := HYP1.out 6 _ rfl
                      have c7 := HXP1.out 7 _ rfl
                      have d7 := HYP1.out 7 _ rfl
                      have c8 := HXP1.out 8 _ rfl
                      have d8 := HYP1.out 8 _ rfl
                      have c9 := HXP1.out 9 _ rfl
                      have d9 := HYP1.out 9 _ rfl
                      clear b1
                      go_wp2_with fail
                      go_ret
                      exact ⟨ret_bool (by rw [HX.out, e0, e1, e2, e3, e4, e5, e6, e7, e8, e9]; simp), HB1.out⟩
end Go.Proofs.YtnamkglflhkckaaGreatDoor
end
