/-
  THE CHAPTER'S EXAMPLE (deeds): walked. THE LAW DraftLives, walked. WHICH MESSAGES ARE GONE THROUGH: walked.
-/
import Derived.Test.YtallnjhjhoaflaaGreatDoorDf10
import Derived.Test.YtallnjhjhoaflaaGreatDoorDf26
import Derived.Test.YtallnjhjhoaflaaGreatDoorDf28
import Derived.Test.YtallnjhjhoaflaaGreatDoorDf40
import Derived.Test.YtallnjhjhoaflaaGreatDoorDf43
import Derived.Test.YtallnjhjhoaflaaGreatDoorDf48

section
namespace Go.Proofs.YtallnjhjhoaflaaGreatDoor
open Go.ChangeShapes Go.WideShapes Go.ChangeAt Go.RowKit
def exDe : De := De.of 11 1
theorem exDe_code : exDe.code = 0 := by decide
theorem exDe_len : exDe.enc.length = 9 := by decide
theorem deOk_of (k t : Nat) (w : World) : DeOk w (De.of k t) none 0 none 0 := ⟨Nat.zero_le _, Nat.zero_le _, Nat.zero_le _, Nat.zero_le _, ⟨Nat.zero_le _, Nat.zero_le _, Nat.zero_le _, Nat.zero_le _, Nat.le_refl _, lite_nil, Prs.nil _ _⟩, Nat.zero_le _, ⟨Nat.zero_le _, Nat.zero_le _, Nat.zero_le _, Nat.zero_le _, Nat.le_refl _, lite_nil, Prs.nil _ _⟩, Nat.zero_le _⟩
theorem deFits_of {k t : Nat} (hk : k < 256) (ht : t < 18446744073709551616) : De.Fits (De.of k t) :=
  ⟨hk, ht, (show 0 < 256 by decide), (show 0 < 18446744073709551616 by decide), (show 0 < 18446744073709551616 by decide), fun p hp => absurd hp (by simp [De.of, Bk.Bd0]), (show 0 < 18446744073709551616 by decide), (show 0 < 256 by decide), (show 0 < 256 by decide), (show 0 < 256 by decide), (show 0 < 18446744073709551616 by decide), ⟨(show 0 < 18446744073709551616 by decide), (show 0 < 18446744073709551616 by decide), (show 0 < 256 by decide), fun p hp => absurd hp (by simp [De.of, Ml.zero])⟩⟩
theorem ex22_bytes (w : World) (hL : Len w) : Calls Tryz.prog 49 #[deV exDe none 0 none 0] w fun e w' => e = .returned (.tuple #[.string (ofL exDe.enc), .int .i64 0]) ∧ Below w.heap.size w w' := by
  have h := ddBytes_any exDe none 0 none 0 w (deOk_of 11 1 w) (deFits_of (by decide) (by decide)) hL
  rwa [show deBytesV exDe = .tuple #[.string (ofL exDe.enc), .int .i64 0] by unfold deBytesV; rw [if_pos exDe_code]] at h
theorem dd_law13Awake (w : World) (hL : Len w) : Calls Tryz.prog 50 #[] w fun e w' => e = .returned (.bool true) ∧ Below w.heap.size w w' := by
  have HA := Lib.hid (awake13_any w hL)
  go_enter Tryz.func50, Tryz.ntmps50
  go_wp2_with fail
  refine HA.out.mono ?_
  rintro x w1 ⟨rfl, b1⟩
  have B1 := Lib.hid b1
  clear b1
  go_wp2_with fail
  go_ret
  exact ⟨rfl, B1.out⟩
theorem dd_law14Awake (w : World) (hL : Len w) : Calls Tryz.prog 51 #[] w fun e w' => e = .returned (.bool true) ∧ Below w.heap.size w w' := by
  have HA := Lib.hid (rt_awake_any w hL)
  go_enter Tryz.func51, Tryz.ntmps51
  go_wp2_with fail
  refine HA.out.mono ?_
  rintro x w1 ⟨rfl, b1⟩
  have B1 := Lib.hid b1
  clear b1
  go_wp2_with fail
  go_ret
  exact ⟨rfl, B1.out⟩
set_option maxRecDepth 100000 in
set_option maxHeartbeats 4000000 in
theorem law22awake_any (w : World) (hL : Len w) : Calls Tryz.prog 36 #[] w fun e w' => e = .returned (.bool true) ∧ Below w.heap.size w w' := by
  have HX := Lib.hid (ex22_bytes w hL)
  have HL := Lib.hid hL
  have hz : (ofL exDe.enc).size = 9 := by rw [ofL_size, exDe_len]
  clear hL
  generalize ofL exDe.enc = E at *
  go_enter Tryz.func36, Tryz.ntmps36
  go_wp2_with (refine wpList_buildTo (by rfl) 39 _ (by rfl) _ (by rfl) (deL exDe none 0 none 0).toArray (by kernel_rfl) ?_)
  refine HX.out.mono ?_
  rintro e w1 ⟨rfl, b1⟩
  have HL1 := Lib.hid (HL.out.on b1)
  have HB1 := Lib.hid b1
  clear b1
  go_wp2_with fail
  refine (dd_law13Awake _ HL1.out).mono ?_
  rintro e w2 ⟨rfl, b2⟩
  have HL2 := Lib.hid (HL1.out.on b2)
  have HB2 := Lib.hid (bthen HB1.out b2 (Nat.le_refl _))
  clear b2
  go_wp2_with fail
  refine (dd_law14Awake _ HL2.out).mono ?_
  rintro e w3 ⟨rfl, b3⟩
  have HB3 := Lib.hid (bthen HB2.out b3 (Nat.le_refl _))
  clear b3
  go_wp2_with fail
  go_ret
  exact ⟨rfl, HB3.out⟩
theorem law22Awake_any (w : World) (hL : Len w) : Calls Tryz.prog 21 #[] w fun e w' => e = .returned (.bool true) ∧ Below w.heap.size w w' := by
  have HA := Lib.hid (law22awake_any w hL)
  go_enter Tryz.func21, Tryz.ntmps21
  go_wp2_with fail
  refine HA.out.mono ?_
  rintro x w1 ⟨rfl, b1⟩
  have B1 := Lib.hid b1
  clear b1
  go_wp2_with fail
  go_ret
  exact ⟨rfl, B1.out⟩
end Go.Proofs.YtallnjhjhoaflaaGreatDoor
end
section
namespace Go.Proofs.YtallnjhjhoaflaaGreatDoor
open Go.ChangeShapes Go.WideShapes Go.ChangeAt Go.RowKit
set_option maxRecDepth 100000 in
set_option maxHeartbeats 4000000 in
theorem awake26_any (w : World) (hL : Len w) : Calls Tryz.prog 6 #[] w fun e w' => e = .returned (.bool true) ∧ Below w.heap.size w w' := by
  have HA := Lib.hid (law22Awake_any w hL)
  have H1 := Lib.hid (fun W => drLife_any 3 4 W (by decide) (by decide))
  have H2 := Lib.hid (fun W => drLife_any 18446744073709551615 1 W (by decide) (by decide))
  rw [show lifeN 3 4 = 7 from rfl] at H1
  rw [show lifeN 18446744073709551615 1 = 0 from rfl] at H2
  clear hL
  go_enter Tryz.func6, Tryz.ntmps6
  go_wp2_with fail
  refine HA.out.mono ?_
  rintro e w1 ⟨rfl, b1⟩
  have HB1 := Lib.hid b1
  clear b1
  go_wp2_with fail
  refine (H1.out _).mono ?_
  rintro e w2 ⟨rfl, rfl⟩
  go_wp2_with fail
  refine (H2.out _).mono ?_
  rintro e w3 ⟨rfl, rfl⟩
  go_wp2_with fail
  go_ret
  exact ⟨rfl, HB1.out⟩
end Go.Proofs.YtallnjhjhoaflaaGreatDoor
end
section
namespace Go.Proofs.YtallnjhjhoaflaaGreatDoor
open Go.ChangeShapes Go.WideShapes Go.ChangeAt Go.RowKit
def maLight (x : Ml) : Bool := decide (x.shop.length ≤ 40) && decide (x.key.length ≤ 100) && lightB x.head && decide (x.body.length ≤ 300)
theorem ml_light_ok {x : Ml} (h : maLight x = true) : x.shop.length ≤ 40 ∧ x.key.length ≤ 100 ∧ lightB x.head = true ∧ x.body.length ≤ 300 := by
  unfold maLight at h
  simp only [Bool.and_eq_true, decide_eq_true_eq] at h
  exact ⟨h.1.1.1, h.1.1.2, h.1.2, h.2⟩
theorem ml_light_Ok {w : World} {x : Ml} {A : Option Addr} {c : Nat} (h : maLight x = true) (hc : x.head.length ≤ c) (hp : Prs w A x.head) : MaOk w x A c := by
  obtain ⟨h2, h3, h4, h5⟩ := ml_light_ok h
  obtain ⟨h6, h7, -⟩ := light_lite h4
  exact ⟨by omega, by omega, by omega, by omega, hc, h7, hp⟩
/-- one that came in -/
structure MaIn (w : World) (x : Ml) (A : Option Addr) (c : Nat) : Prop where
  row : Prs w A x.head
  cap : x.head.length ≤ c
  big : x.head.length ≤ 9223372036854775807
  txt : x.shop.length ≤ 9223372036854775807 ∧ x.key.length ≤ 9223372036854775807 ∧ x.body.length ≤ 9223372036854775807
  fits : Ml.Fits x
set_option maxRecDepth 100000 in
set_option maxHeartbeats 4000000 in
theorem ml_light_any (x : Ml) (A : Option Addr) (c : Nat) (w : World) (hl : x.head.length ≤ 9223372036854775807) (hp : Prs w A x.head) :
    Calls Tryz.prog 18 #[maV x A c] w fun e w' => e = .returned (.bool (maLight x)) ∧ Below w.heap.size w w' := by
  have HM0 := Lib.hid (MaX.start w x A c hp 37)
  have HLI := Lib.hid (fun W h => light9_any x.head A c W hl h)
  have HD : Hid (maLight x = (decide (x.shop.length ≤ 40) && decide (x.key.length ≤ 100) && lightB x.head && decide (x.body.length ≤ 300))) := rfl
  have s2 : (ofL x.shop).size = x.shop.length := ofL_size _
  have s3 : (ofL x.key).size = x.key.length := ofL_size _
  have s4 : (ofL x.body).size = x.body.length := ofL_size _
  generalize maLight x = LX at *
  generalize lightB x.head = LB at *
  simp only [maV]
  clear hp
  by_cases h1 : x.shop.length ≤ 40
  · have g1 : (ofL x.shop).size ≤ 40 := by omega
    by_cases h3 : x.key.length ≤ 100
    · have g3 : (ofL x.key).size ≤ 100 := by omega
      cases hb : LB with
      | false =>
        have HC := Lib.hid (show LX = false by rw [HD.out, hb]; simp)
        rw [hb] at HLI
        clear h1 h3 hb s2 s3 s4
        go_enter Tryz.func18, Tryz.ntmps18
        go_wp2_with fail
        refine (HLI.out _ HM0.out.ra).mono ?_
        rintro e w1 ⟨rfl, b1⟩
        have HM1 := Lib.hid (HM0.out.on b1)
        clear b1
        go_wp2_with fail
        go_ret
        exact ⟨ret_bool HC.out.symm, HM1.out.B⟩
      | true =>
        have HC := Lib.hid (show LX = decide (x.body.length ≤ 300) by rw [HD.out, hb, decide_eq_true h1, decide_eq_true h3]; simp)
        have hb4 : decide (((ofL x.body).size : Int) ≤ 300) = decide (x.body.length ≤ 300) := decide_eq_decide.2 (by omega)
        rw [hb] at HLI
        clear h1 h3 hb s2 s3 s4
        go_enter Tryz.func18, Tryz.ntmps18
        go_wp2_with fail
        refine (HLI.out _ HM0.out.ra).mono ?_
        rintro e w1 ⟨rfl, b1⟩
        have HM1 := Lib.hid (HM0.out.on b1)
        have lt1 := HM1.out.p.lt
        have cb := HM1.out.p.cs 4 _ rfl
        clear b1
        go_wp2_with fail
        go_ret
        exact ⟨ret_bool (by rw [HC.out, ← hb4]), HM1.out.B⟩
    · have g3 : ¬ (ofL x.key).size ≤ 100 := by omega
      have HC := Lib.hid (show LX = false by rw [HD.out, decide_eq_false h3]; simp)
      clear h1 h3 s2 s3 s4
      go_enter Tryz.func18, Tryz.ntmps18
      go_wp2_with fail
      go_ret
      exact ⟨ret_bool HC.out.symm, HM0.out.B⟩
  · have g1 : ¬ (ofL x.shop).size ≤ 40 := by omega
    have HC := Lib.hid (show LX = false by rw [HD.out, decide_eq_false h1]; simp)
    clear h1 s2 s3 s4
    go_enter Tryz.func18, Tryz.ntmps18
    go_wp2_with fail
    go_ret
    exact ⟨ret_bool HC.out.symm, HM0.out.B⟩
end Go.Proofs.YtallnjhjhoaflaaGreatDoor
end
