/-
  THE CHAPTER'S EXAMPLE (deeds): walked. THE LAW DraftLives, walked. THE LAW ChansCredit: walked. WHETHER TWO ARE THE SAME (methods): walked.
-/
import Derived.Test.YtgaggelpjaiabaaGreatDoorSp05
import Derived.Test.YtgaggelpjaiabaaGreatDoorSp18
import Derived.Test.YtgaggelpjaiabaaGreatDoorSp19
import Derived.Test.YtgaggelpjaiabaaGreatDoorSp32
import Derived.Test.YtgaggelpjaiabaaGreatDoorSp33
import Derived.Test.YtgaggelpjaiabaaGreatDoorSp37
import Derived.Test.YtgaggelpjaiabaaGreatDoorSp41

section
namespace Go.Proofs.YtgaggelpjaiabaaGreatDoor
open Go.ChangeShapes Go.WideShapes Go.ChangeAt Go.RowKit
def exDe : De := De.of 11 1
theorem exDe_code : exDe.code = 0 := by decide
theorem exDe_len : exDe.enc.length = 9 := by decide
theorem deOk_of (k t : Nat) (w : World) : DeOk w (De.of k t) none 0 none 0 := ⟨Nat.zero_le _, Nat.zero_le _, Nat.zero_le _, Nat.zero_le _, ⟨Nat.zero_le _, Nat.zero_le _, Nat.zero_le _, Nat.zero_le _, Nat.le_refl _, lite_nil, Prs.nil _ _⟩, Nat.zero_le _, ⟨Nat.zero_le _, Nat.zero_le _, Nat.zero_le _, Nat.zero_le _, Nat.le_refl _, lite_nil, Prs.nil _ _⟩, Nat.zero_le _⟩
theorem deFits_of {k t : Nat} (hk : k < 256) (ht : t < 18446744073709551616) : De.Fits (De.of k t) :=
  ⟨hk, ht, (show 0 < 256 by decide), (show 0 < 18446744073709551616 by decide), (show 0 < 18446744073709551616 by decide), fun p hp => absurd hp (by simp [De.of, Bk.Bd0]), (show 0 < 18446744073709551616 by decide), (show 0 < 256 by decide), (show 0 < 256 by decide), (show 0 < 256 by decide), (show 0 < 18446744073709551616 by decide), ⟨(show 0 < 18446744073709551616 by decide), (show 0 < 18446744073709551616 by decide), (show 0 < 256 by decide), fun p hp => absurd hp (by simp [De.of, Ml.zero])⟩⟩
theorem ex22_bytes (w : World) (_hL : Len w) : Calls Tryz.prog 180 #[deV exDe none 0 none 0] w fun e w' => e = .returned (.tuple #[.string (ofL exDe.enc), .int .i64 0]) ∧ Below w.heap.size w w' := by
  have h := ddBytes11_any exDe none 0 none 0 w (deOk_of 11 1 w) (deFits_of (by decide) (by decide)) rfl (by decide)
  rwa [show deBytesV exDe = .tuple #[.string (ofL exDe.enc), .int .i64 0] by unfold deBytesV; rw [if_pos exDe_code]] at h
theorem dd_law13Awake (w : World) (hL : Len w) : Calls Tryz.prog 181 #[] w fun e w' => e = .returned (.bool true) ∧ Below w.heap.size w w' := by
  have HA := Lib.hid (awake13_any w hL)
  go_enter Tryz.func181, Tryz.ntmps181
  go_wp2_with fail
  refine HA.out.mono ?_
  rintro x w1 ⟨rfl, b1⟩
  have B1 := Lib.hid b1
  clear b1
  go_wp2_with fail
  go_ret
  exact ⟨rfl, B1.out⟩
theorem dd_law14Awake (w : World) (hL : Len w) : Calls Tryz.prog 182 #[] w fun e w' => e = .returned (.bool true) ∧ Below w.heap.size w w' := by
  have HA := Lib.hid (rt_awake_any w hL)
  go_enter Tryz.func182, Tryz.ntmps182
  go_wp2_with fail
  refine HA.out.mono ?_
  rintro x w1 ⟨rfl, b1⟩
  have B1 := Lib.hid b1
  clear b1
  go_wp2_with fail
  go_ret
  exact ⟨rfl, B1.out⟩
set_option maxRecDepth 100000 in
set_option maxHeartbeats 4000000 in
theorem law22awake_any (w : World) (hL : Len w) : Calls Tryz.prog 166 #[] w fun e w' => e = .returned (.bool true) ∧ Below w.heap.size w w' := by
  have HX := Lib.hid (ex22_bytes w hL)
  have HL := Lib.hid hL
  have hz : (ofL exDe.enc).size = 9 := by rw [ofL_size, exDe_len]
  clear hL
  generalize ofL exDe.enc = E at *
  go_enter Tryz.func166, Tryz.ntmps166
  go_wp2_with (refine wpList_buildTo (by rfl) 111 _ (by rfl) _ (by rfl) (deL exDe none 0 none 0).toArray (by kernel_rfl) ?_)
  refine HX.out.mono ?_
  rintro e w1 ⟨rfl, b1⟩
  have HL1 := Lib.hid (HL.out.on b1)
  have HB1 := Lib.hid b1
  clear b1
  go_wp2_with fail
  refine (dd_law13Awake _ HL1.out).mono ?_
  rintro e w2 ⟨rfl, b2⟩
  have HL2 := Lib.hid (HL1.out.on b2)
  have HB2 := Lib.hid (bthen HB1.out b2 (Nat.le_refl _))
  clear b2
  go_wp2_with fail
  refine (dd_law14Awake _ HL2.out).mono ?_
  rintro e w3 ⟨rfl, b3⟩
  have HB3 := Lib.hid (bthen HB2.out b3 (Nat.le_refl _))
  clear b3
  go_wp2_with fail
  go_ret
  exact ⟨rfl, HB3.out⟩
theorem law22Awake_any (w : World) (hL : Len w) : Calls Tryz.prog 146 #[] w fun e w' => e = .returned (.bool true) ∧ Below w.heap.size w w' := by
  have HA := Lib.hid (law22awake_any w hL)
  go_enter Tryz.func146, Tryz.ntmps146
  go_wp2_with fail
  refine HA.out.mono ?_
  rintro x w1 ⟨rfl, b1⟩
  have B1 := Lib.hid b1
  clear b1
  go_wp2_with fail
  go_ret
  exact ⟨rfl, B1.out⟩
end Go.Proofs.YtgaggelpjaiabaaGreatDoor
end
section
namespace Go.Proofs.YtgaggelpjaiabaaGreatDoor
open Go.ChangeShapes Go.WideShapes Go.ChangeAt Go.RowKit
set_option maxRecDepth 100000 in
set_option maxHeartbeats 4000000 in
theorem awake26_any (w : World) (hL : Len w) : Calls Tryz.prog 111 #[] w fun e w' => e = .returned (.bool true) ∧ Below w.heap.size w w' := by
  have HA := Lib.hid (law22Awake_any w hL)
  have H1 := Lib.hid (fun W => drLife_any 3 4 W (by decide) (by decide))
  have H2 := Lib.hid (fun W => drLife_any 18446744073709551615 1 W (by decide) (by decide))
  rw [show lifeN 3 4 = 7 from rfl] at H1
  rw [show lifeN 18446744073709551615 1 = 0 from rfl] at H2
  clear hL
  go_enter Tryz.func111, Tryz.ntmps111
  go_wp2_with fail
  refine HA.out.mono ?_
  rintro e w1 ⟨rfl, b1⟩
  have HB1 := Lib.hid b1
  clear b1
  go_wp2_with fail
  refine (H1.out _).mono ?_
  rintro e w2 ⟨rfl, rfl⟩
  go_wp2_with fail
  refine (H2.out _).mono ?_
  rintro e w3 ⟨rfl, rfl⟩
  go_wp2_with fail
  go_ret
  exact ⟨rfl, HB1.out⟩
end Go.Proofs.YtgaggelpjaiabaaGreatDoor
end
section
namespace Go.Proofs.YtgaggelpjaiabaaGreatDoor
open Go.ChangeShapes Go.WideShapes Go.ChangeAt Go.RowKit
theorem law26Awake_any (w : World) (hL : Len w) : Calls Tryz.prog 72 #[] w fun e w' => e = .returned (.bool true) ∧ Below w.heap.size w w' := by
  have HA := Lib.hid (awake26_any w hL)
  clear hL
  go_enter Tryz.func72, Tryz.ntmps72
  go_wp2_with fail
  refine HA.out.mono ?_
  rintro e w1 ⟨rfl, b1⟩
  have HB1 := Lib.hid b1
  clear b1
  go_wp2_with fail
  go_ret
  exact ⟨rfl, HB1.out⟩
set_option maxRecDepth 100000 in
set_option maxHeartbeats 8000000 in
theorem awake27_any (w : World) (hL : Len w) : Calls Tryz.prog 39 #[] w fun e w' => e = .returned (.bool true) ∧ Below w.heap.size w w' := by
  have HN := Lib.hid (fun W => chNew_any W)
  have HC := Lib.hid (fun W => chCredit_any Cn.new none 0 0 1 W (by omega))
  have HA := Lib.hid (fun W h => law26Awake_any W h)
  have HR0 := Lib.hid (fun W => chRoom_any { Cn.new with cr := 1 } none 0 0 W (by decide) (by omega))
  have HL1 := Lib.hid (fun W => chLend_any { Cn.new with cr := 1 } none 0 0 [] 1 [113] W (by omega) (by omega) (fun _ => rfl) rfl (Rws.nil _ _))
  have HR1 := Lib.hid (fun W A c => chRoom_any { Cn.new with cr := 1 } A 1 c W (by decide) (by omega))
  have HL0 := Lib.hid hL
  rw [if_pos (show crOk 1 = true from rfl), if_pos (show crOk 1 = true from rfl)] at HC
  simp only [chV, Cn.new] at HN HC HR0 HL1 HR1
  clear hL
  go_enter Tryz.func39, Tryz.ntmps39
  go_wp2_with fail
  refine (HN.out _).mono ?_
  rintro e w1 ⟨rfl, b1⟩
  have HB1 := Lib.hid b1
  clear b1
  go_wp2_with fail
  refine (HC.out _).mono ?_
  rintro e w2 ⟨rfl, b2⟩
  have HB2 := Lib.hid (bthen HB1.out b2 (Nat.le_refl _))
  clear b2
  have HX3 := Lib.hid (BoxC.new (w := w) (W := w2) HB2.out.size #[.int .i64 ((1 : Nat) : Int), .slice none 0 0, .slice none 0 0, .bool false, .int .u64 ((0 : Nat) : Int), .bool false, .slice none 0 0] 40)
  have HB3 := Lib.hid (bthen HB2.out (rtOne w2 (.cells #[.int .i64 ((1 : Nat) : Int), .slice none 0 0, .slice none 0 0, .bool false, .int .u64 ((0 : Nat) : Int), .bool false, .slice none 0 0] 40)) (Nat.le_refl _))
  generalize hg2 : w2.heap.size = g2 at *
  go_upto_region 2 with fail
  try rw [hg2]
  generalize w2.alloc (.cells #[.int .i64 ((1 : Nat) : Int), .slice none 0 0, .slice none 0 0, .bool false, .int .u64 ((0 : Nat) : Int), .bool false, .slice none 0 0] 40) = w3 at *
  have x0 := HX3.out.cs 0 _ rfl
  have x1 := HX3.out.cs 1 _ rfl
  have x2 := HX3.out.cs 2 _ rfl
  have x3 := HX3.out.cs 3 _ rfl
  have x4 := HX3.out.cs 4 _ rfl
  have x5 := HX3.out.cs 5 _ rfl
  have x6 := HX3.out.cs 6 _ rfl
  have xl := HX3.out.lt
  go_wp2_with fail
  refine (HA.out _ (HL0.out.on HB3.out)).mono ?_
  rintro e w4 ⟨rfl, b4⟩
  have HX4 := Lib.hid (HX3.out.on b4)
  have HB4 := Lib.hid (bthen HB3.out b4 (Nat.le_refl _))
  clear b4
  clear x0 x1 x2 x3 x4 x5 x6 xl
  have x0 := HX4.out.cs 0 _ rfl
  have x1 := HX4.out.cs 1 _ rfl
  have x2 := HX4.out.cs 2 _ rfl
  have x3 := HX4.out.cs 3 _ rfl
  have x4 := HX4.out.cs 4 _ rfl
  have x5 := HX4.out.cs 5 _ rfl
  have x6 := HX4.out.cs 6 _ rfl
  have xl := HX4.out.lt
  go_wp2_with fail
  refine (HR0.out _).mono ?_
  rintro e w5 ⟨rfl, b5⟩
  have HX5 := Lib.hid (HX4.out.on b5)
  have HB5 := Lib.hid (bthen HB4.out b5 (Nat.le_refl _))
  clear b5
  clear x0 x1 x2 x3 x4 x5 x6 xl
  have x0 := HX5.out.cs 0 _ rfl
  have x1 := HX5.out.cs 1 _ rfl
  have x2 := HX5.out.cs 2 _ rfl
  have x3 := HX5.out.cs 3 _ rfl
  have x4 := HX5.out.cs 4 _ rfl
  have x5 := HX5.out.cs 5 _ rfl
  have x6 := HX5.out.cs 6 _ rfl
  have xl := HX5.out.lt
  go_wp2_with fail
  refine (HL1.out _).mono ?_
  rintro e w6 ⟨g, c', rfl, -, -, -, b6⟩
  have HB6 := Lib.hid (bthen HB5.out b6 (Nat.le_refl _))
  clear b6
  simp only [chV]
  go_wp2_with fail
  refine (HR1.out _ _ _).mono ?_
  rintro e w7 ⟨rfl, b7⟩
  have HB7 := Lib.hid (bthen HB6.out b7 (Nat.le_refl _))
  clear b7
  go_wp2_with fail
  go_ret
  exact ⟨rfl, HB7.out⟩
end Go.Proofs.YtgaggelpjaiabaaGreatDoor
end
section
namespace Go.Proofs.YtgaggelpjaiabaaGreatDoor
open Go.ChangeShapes Go.WideShapes Go.ChangeAt Go.RowKit
def meEq (x y : Me) : Bool := (x.ch.toNat == y.ch.toNat) && (x.kd.toNat == y.kd.toNat) && (x.name == y.name) && (x.other == y.other) && (x.key == y.key) && decide (x.head = y.head) && (x.body == y.body) && (x.n == y.n) && (x.m == y.m) && (x.yes == y.yes)
theorem meEq_self (x : Me) : meEq x x = true := by unfold meEq; simp
set_option maxRecDepth 100000 in
set_option maxHeartbeats 8000000 in
theorem me_Same_any (x y : Me) (A : Option Addr) (c : Nat) (B : Option Addr) (d : Nat) (w : World) (hl : x.head.length ≤ 100000) (hm : y.head.length ≤ 100000) (hA : Prs w A x.head) (hB : Prs w B y.head) :
    Calls Tryz.prog 16 #[meV x A c, meV y B d] w fun e w' => e = .returned (.bool (meEq x y)) ∧ Below w.heap.size w w' := by
  have HB0 := Lib.hid (show Below w.heap.size w ((w.alloc (.cells #[.int .u8 (x.ch.toNat : Int), .int .u8 (x.kd.toNat : Int), .string (ofL x.name), .string (ofL x.other), .string (ofL x.key), .slice A x.head.length c, .string (ofL x.body), .int .u64 (x.n : Int), .int .u64 (x.m : Int), .bool x.yes] 25)).alloc (.cells #[.int .u8 (y.ch.toNat : Int), .int .u8 (y.kd.toNat : Int), .string (ofL y.name), .string (ofL y.other), .string (ofL y.key), .slice B y.head.length d, .string (ofL y.body), .int .u64 (y.n : Int), .int .u64 (y.m : Int), .bool y.yes] 25)) from ((Below.refl _ _).alloc (Nat.le_refl _) _).alloc (by simp) _)
  have HXP := Lib.hid (show Cels ((w.alloc (.cells #[.int .u8 (x.ch.toNat : Int), .int .u8 (x.kd.toNat : Int), .string (ofL x.name), .string (ofL x.other), .string (ofL x.key), .slice A x.head.length c, .string (ofL x.body), .int .u64 (x.n : Int), .int .u64 (x.m : Int), .bool x.yes] 25)).alloc (.cells #[.int .u8 (y.ch.toNat : Int), .int .u8 (y.kd.toNat : Int), .string (ofL y.name), .string (ofL y.other), .string (ofL y.key), .slice B y.head.length d, .string (ofL y.body), .int .u64 (y.n : Int), .int .u64 (y.m : Int), .bool y.yes] 25)) w.heap.size [.int .u8 (x.ch.toNat : Int), .int .u8 (x.kd.toNat : Int), .string (ofL x.name), .string (ofL x.other), .string (ofL x.key), .slice A x.head.length c, .string (ofL x.body), .int .u64 (x.n : Int), .int .u64 (x.m : Int), .bool x.yes] from (Cels.new w #[.int .u8 (x.ch.toNat : Int), .int .u8 (x.kd.toNat : Int), .string (ofL x.name), .string (ofL x.other), .string (ofL x.key), .slice A x.head.length c, .string (ofL x.body), .int .u64 (x.n : Int), .int .u64 (x.m : Int), .bool x.yes] 25).on ((Below.refl _ _).alloc (Nat.le_refl _) _) (by simp))
  have HYP := Lib.hid (show Cels ((w.alloc (.cells #[.int .u8 (x.ch.toNat : Int), .int .u8 (x.kd.toNat : Int), .string (ofL x.name), .string (ofL x.other), .string (ofL x.key), .slice A x.head.length c, .string (ofL x.body), .int .u64 (x.n : Int), .int .u64 (x.m : Int), .bool x.yes] 25)).alloc (.cells #[.int .u8 (y.ch.toNat : Int), .int .u8 (y.kd.toNat : Int), .string (ofL y.name), .string (ofL y.other), .string (ofL y.key), .slice B y.head.length d, .string (ofL y.body), .int .u64 (y.n : Int), .int .u64 (y.m : Int), .bool y.yes] 25)) (w.heap.size + 1) [.int .u8 (y.ch.toNat : Int), .int .u8 (y.kd.toNat : Int), .string (ofL y.name), .string (ofL y.other), .string (ofL y.key), .slice B y.head.length d, .string (ofL y.body), .int .u64 (y.n : Int), .int .u64 (y.m : Int), .bool y.yes] by
    have := Cels.new (w.alloc (.cells #[.int .u8 (x.ch.toNat : Int), .int .u8 (x.kd.toNat : Int), .string (ofL x.name), .string (ofL x.other), .string (ofL x.key), .slice A x.head.length c, .string (ofL x.body), .int .u64 (x.n : Int), .int .u64 (x.m : Int), .bool x.yes] 25)) #[.int .u8 (y.ch.toNat : Int), .int .u8 (y.kd.toNat : Int), .string (ofL y.name), .string (ofL y.other), .string (ofL y.key), .slice B y.head.length d, .string (ofL y.body), .int .u64 (y.n : Int), .int .u64 (y.m : Int), .bool y.yes] 25
    simpa using this)
  have HPA := Lib.hid (hA.on HB0.out)
  have HPB := Lib.hid (hB.on HB0.out)
  have HW := Lib.hid (fun W h1 h2 => hsame_any x.head y.head A c B d W hl hm h1 h2)
  have HX : Hid (meEq x y = ((x.ch.toNat == y.ch.toNat) && (x.kd.toNat == y.kd.toNat) && (x.name == y.name) && (x.other == y.other) && (x.key == y.key) && decide (x.head = y.head) && (x.body == y.body) && (x.n == y.n) && (x.m == y.m) && (x.yes == y.yes))) := rfl
  clear hA hB
  generalize meEq x y = SB at *
  simp only [meV] at *
  generalize decide (x.head = y.head) = M at *
  have h0 := cast_beq x.ch.toNat y.ch.toNat
  cases e0 : (x.ch.toNat == y.ch.toNat) with
  | false =>
    rw [e0] at h0
    go_enter Tryz.func16, Tryz.ntmps16
    go_wp2_with fail
    go_ret
    exact ⟨ret_bool (by rw [HX.out, e0]; simp), HB0.out⟩
  | true =>
    rw [e0] at h0
    have h1 := cast_beq x.kd.toNat y.kd.toNat
    cases e1 : (x.kd.toNat == y.kd.toNat) with
    | false =>
      rw [e1] at h1
      go_enter Tryz.func16, Tryz.ntmps16
      go_wp2_with fail
      go_ret
      exact ⟨ret_bool (by rw [HX.out, e0, e1]; simp), HB0.out⟩
    | true =>
      rw [e1] at h1
      have h2 := str_same x.name y.name
      cases e2 : (x.name == y.name) with
      | false =>
        rw [e2] at h2
        go_enter Tryz.func16, Tryz.ntmps16
        go_wp2_with fail
        go_ret
        exact ⟨ret_bool (by rw [HX.out, e0, e1, e2]; simp), HB0.out⟩
      | true =>
        rw [e2] at h2
        have h3 := str_same x.other y.other
        cases e3 : (x.other == y.other) with
        | false =>
          rw [e3] at h3
          go_enter Tryz.func16, Tryz.ntmps16
          go_wp2_with fail
          go_ret
          exact ⟨ret_bool (by rw [HX.out, e0, e1, e2, e3]; simp), HB0.out⟩
        | true =>
          rw [e3] at h3
          have h4 := str_same x.key y.key
          cases e4 : (x.key == y.key) with
          | false =>
            rw [e4] at h4
            go_enter Tryz.func16, Tryz.ntmps16
            go_wp2_with fail
            go_ret
            exact ⟨ret_bool (by rw [HX.out, e0, e1, e2, e3, e4]; simp), HB0.out⟩
          | true =>
            rw [e4] at h4
            cases e5 : M with
            | false =>
              rw [e5] at HW
              go_enter Tryz.func16, Tryz.ntmps16
              go_wp2_with fail
              refine (HW.out _ HPA.out HPB.out).mono ?_
              rintro e w1 ⟨rfl, b1⟩
              have HB1 := Lib.hid (bthen HB0.out b1 (Nat.le_refl _))
              have HXP1 := Lib.hid (HXP.out.on b1 (by simp; omega))
              have HYP1 := Lib.hid (HYP.out.on b1 (by simp))
              have lq : w.heap.size + 1 < w1.heap.size := by have := b1.size; simp at this; omega
              have lp : w.heap.size < w1.heap.size := by omega
              have c0 := HXP1.out 0 _ rfl
              have d0 := HYP1.out 0 _ rfl
              have c1 := HXP1.out 1 _ rfl
              have d1 := HYP1.out 1 _ rfl
              have c2 := HXP1.out 2 _ rfl
              have d2 := HYP1.out 2 _ rfl
              have c3 := HXP1.out 3 _ rfl
              have d3 := HYP1.out 3 _ rfl
              have c4 := HXP1.out 4 _ rfl
              have d4 := HYP1.out 4 _ rfl
              have c5 := HXP1.out 5 _ rfl
              have d5 := HYP1.out 5 _ rfl
              have c6 := HXP1.out 6 _ rfl
              have d6 := HYP1.out 6 _ rfl
              have c7 := HXP1.out 7 _ rfl
              have d7 := HYP1.out 7 _ rfl
              have c8 := HXP1.out 8 _ rfl
              have d8 := HYP1.out 8 _ rfl
              have c9 := HXP1.out 9 _ rfl
              have d9 := HYP1.out 9 _ rfl
              clear b1
              go_wp2_with fail
              go_ret
              exact ⟨ret_bool (by rw [HX.out, e0, e1, e2, e3, e4, e5]; simp), HB1.out⟩
            | true =>
              rw [e5] at HW
              have h6 := str_same x.body y.body
              cases e6 : (x.body == y.body) with
              | false =>
                rw [e6] at h6
                go_enter Tryz.func16, Tryz.ntmps16
                go_wp2_with fail
                refine (HW.out _ HPA.out HPB.out).mono ?_
                rintro e w1 ⟨rfl, b1⟩
                have HB1 := Lib.hid (bthen HB0.out b1 (Nat.le_refl _))
                have HXP1 := Lib.hid (HXP.out.on b1 (by simp; omega))
                have HYP1 := Lib.hid (HYP.out.on b1 (by simp))
                have lq : w.heap.size + 1 < w1.heap.size := by have := b1.size; simp at this; omega
                have lp : w.heap.size < w1.heap.size := by omega
                have c0 := HXP1.out 0 _ rfl
                have d0 := HYP1.out 0 _ rfl
                have c1 := HXP1.out 1 _ rfl
                have d1 := HYP1.out 1 _ rfl
                have c2 := HXP1.out 2 _ rfl
                have d2 := HYP1.out 2 _ rfl
                have c3 := HXP1.out 3 _ rfl
                have d3 := HYP1.out 3 _ rfl
                have c4 := HXP1.out 4 _ rfl
                have d4 := HYP1.out 4 _ rfl
                have c5 := HXP1.out 5 _ rfl
                have d5 := HYP1.out 5 _ rfl
                have c6 := HXP1.out 6 _ rfl
                have d6 := HYP1.out 6 _ rfl
                have c7 := HXP1.out 7 _ rfl
                have d7 := HYP1.out 7 _ rfl
                have c8 := HXP1.out 8 _ rfl
                have d8 := HYP1.out 8 _ rfl
                have c9 := HXP1.out 9 _ rfl
                have d9 := HYP1.out 9 _ rfl
                clear b1
                go_wp2_with fail
                go_ret
                exact ⟨ret_bool (by rw [HX.out, e0, e1, e2, e3, e4, e5, e6]; simp), HB1.out⟩
              | true =>
                rw [e6] at h6
                have h7 := cast_beq x.n y.n
                cases e7 : (x.n == y.n) with
                | false =>
                  rw [e7] at h7
                  go_enter Tryz.func16, Tryz.ntmps16
                  go_wp2_with fail
                  refine (HW.out _ HPA.out HPB.out).mono ?_
                  rintro e w1 ⟨rfl, b1⟩
                  have HB1 := Lib.hid (bthen HB0.out b1 (Nat.le_refl _))
                  have HXP1 := Lib.hid (HXP.out.on b1 (by simp; omega))
                  have HYP1 := Lib.hid (HYP.out.on b1 (by simp))
                  have lq : w.heap.size + 1 < w1.heap.size := by have := b1.size; simp at this; omega
                  have lp : w.heap.size < w1.heap.size := by omega
                  have c0 := HXP1.out 0 _ rfl
                  have d0 := HYP1.out 0 _ rfl
                  have c1 := HXP1.out 1 _ rfl
                  have d1 := HYP1.out 1 _ rfl
                  have c2 := HXP1.out 2 _ rfl
                  have d2 := HYP1.out 2 _ rfl
                  have c3 := HXP1.out 3 _ rfl
                  have d3 := HYP1.out 3 _ rfl
                  have c4 := HXP1.out 4 _ rfl
                  have d4 := HYP1.out 4 _ rfl
                  have c5 := HXP1.out 5 _ rfl
                  have d5 := HYP1.out 5 _ rfl
                  have c6 := HXP1.out 6 _ rfl
                  have d6 := HYP1.out 6 _ rfl
                  have c7 := HXP1.out 7 _ rfl
                  have d7 := HYP1.out 7 _ rfl
                  have c8 := HXP1.out 8 _ rfl
                  have d8 := HYP1.out 8 _ rfl
                  have c9 := HXP1.out 9 _ rfl
                  have d9 := HYP1.out 9 _ rfl
                  clear b1
                  go_wp2_with fail
                  go_ret
                  exact ⟨ret_bool (by rw [HX.out, e0, e1, e2, e3, e4, e5, e6, e7]; simp), HB1.out⟩
                | true =>
                  rw [e7] at h7
                  have h8 := cast_beq x.m y.m
                  cases e8 : (x.m == y.m) with
                  | false =>
                    rw [e8] at h8
                    go_enter Tryz.func16, Tryz.ntmps16
                    go_wp2_with fail
                    refine (HW.out _ HPA.out HPB.out).mono ?_
                    rintro e w1 ⟨rfl, b1⟩
                    have HB1 := Lib.hid (bthen HB0.out b1 (Nat.le_refl _))
                    have HXP1 := Lib.hid (HXP.out.on b1 (by simp; omega))
                    have HYP1 := Lib.hid (HYP.out.on b1 (by simp))
                    have lq : w.heap.size + 1 < w1.heap.size := by have := b1.size; simp at this; omega
                    have lp : w.heap.size < w1.heap.size := by omega
                    have c0 := HXP1.out 0 _ rfl
                    have d0 := HYP1.out 0 _ rfl
                    have c1 := HXP1.out 1 _ rfl
                    have d1 := HYP1.out 1 _ rfl
                    have c2 := HXP1.out 2 _ rfl
                    have d2 := HYP1.out 2 _ rfl
                    have c3 := HXP1.out 3 _ rfl
                    have d3 := HYP1.out 3 _ rfl
                    have c4 := HXP1.out 4 _ rfl
                    have d4 := HYP1.out 4 _ rfl
                    have c5 := HXP1.out 5 _ rfl
                    have d5 := HYP1.out 5 _ rfl
                    have c6 := HXP1.out 6 _ rfl
                    have d6 := HYP1.out 6 _ rfl
                    have c7 := HXP1.out 7 _ rfl
                    have d7 := HYP1.out 7 _ rfl
                    have c8 := HXP1.out 8 _ rfl
                    have d8 := HYP1.out 8 _ rfl
                    have c9 := HXP1.out 9 _ rfl
                    have d9 := HYP1.out 9 _ rfl
                    clear b1
                    go_wp2_with fail
                    go_ret
                    exact ⟨ret_bool (by rw [HX.out, e0, e1, e2, e3, e4, e5, e6, e7, e8]; simp), HB1.out⟩
                  | true =>
                    rw [e8] at h8
                    have h9 : (x.yes == y.yes) = (x.yes == y.yes) := rfl
                    cases e9 : (x.yes == y.yes) with
                    | false =>
                      rw [e9] at h9
                      go_enter Tryz.func16, Tryz.ntmps16
                      go_wp2_with fail
                      refine (HW.out _ HPA.out HPB.out).mono ?_
                      rintro e w1 ⟨rfl, b1⟩
                      have HB1 := Lib.hid (bthen HB0.out b1 (Nat.le_refl _))
                      have HXP1 := Lib.hid (HXP.out.on b1 (by simp; omega))
                      have HYP1 := Lib.hid (HYP.out.on b1 (by simp))
                      have lq : w.heap.size + 1 < w1.heap.size := by have := b1.size; simp at this; omega
                      have lp : w.heap.size < w1.heap.size := by omega
                      have c0 := HXP1.out 0 _ rfl
                      have d0 := HYP1.out 0 _ rfl
                      have c1 := HXP1.out 1 _ rfl
                      have d1 := HYP1.out 1 _ rfl
                      have c2 := HXP1.out 2 _ rfl
                      have d2 := HYP1.out 2 _ rfl
                      have c3 := HXP1.out 3 _ rfl
                      have d3 := HYP1.out 3 _ rfl
                      have c4 := HXP1.out 4 _ rfl
                      have d4 := HYP1.out 4 _ rfl
                      have c5 := HXP1.out 5 _ rfl
                      have d5 := HYP1.out 5 _ rfl
                      have c6 := HXP1.out 6 _ rfl
                      have d6 := HYP1.out 6 _ rfl
                      have c7 := HXP1.out 7 _ rfl
                      have d7 := HYP1.out 7 _ rfl
                      have c8 := HXP1.out 8 _ rfl
                      have d8 := HYP1.out 8 _ rfl
                      have c9 := HXP1.out 9 _ rfl
                      have d9 := HYP1.out 9 _ rfl
                      clear b1
                      go_wp2_with fail
                      go_ret
                      exact ⟨ret_bool (by rw [HX.out, e0, e1, e2, e3, e4, e5, e6, e7, e8, e9]; simp), HB1.out⟩
                    | true =>
                      rw [e9] at h9
                      go_enter Tryz.func16, Tryz.ntmps16
                      go_wp2_with fail
                      refine (HW.out _ HPA.out HPB.out).mono ?_
                      rintro e w1 ⟨rfl, b1⟩
                      have HB1 := Lib.hid (bthen HB0.out b1 (Nat.le_refl _))
                      have HXP1 := Lib.hid (HXP.out.on b1 (by simp; omega))
                      have HYP1 := Lib.hid (HYP.out.on b1 (by simp))
                      have lq : w.heap.size + 1 < w1.heap.size := by have := b1.size; simp at this; omega
                      have lp : w.heap.size < w1.heap.size := by omega
                      have c0 := HXP1.out 0 _ rfl
                      have d0 := HYP1.out 0 _ rfl
                      have c1 := HXP1.out 1 _ rfl
                      have d1 := HYP1.out 1 _ rfl
                      have c2 := HXP1.out 2 _ rfl
                      have d2 := HYP1.out 2 _ rfl
                      have c3 := HXP1.out 3 _ rfl
                      have d3 := HYP1.out 3 _ rfl
                      have c4 := HXP1.out 4 _ rfl
                      have d4 := HYP1.out 4 _ rfl
                      have c5 := HXP1.out 5 _ rfl
                      have d5 := HYP1.out 5 _ rfl
                      have c6 := HXP1.out 6 _ rfl
                      have d6 := HYP1.out 6 _ rfl
                      have c7 := HXP1.out 7 _ rfl
                      have d7 := HYP1.out 7 _ rfl
                      have c8 := HXP1.out 8 _ rfl
                      have d8 := HYP1.out 8 _ rfl
                      have c9 := HXP1.out 9 _ rfl
                      have d9 := HYP1.out 9 _ rfl
                      clear b1
                      go_wp2_with fail
                      go_ret
                      exact ⟨ret_bool (by rw [HX.out, e0, e1, e2, e3, e4, e5, e6, e7, e8, e9]; simp), HB1.out⟩
end Go.Proofs.YtgaggelpjaiabaaGreatDoor
end
