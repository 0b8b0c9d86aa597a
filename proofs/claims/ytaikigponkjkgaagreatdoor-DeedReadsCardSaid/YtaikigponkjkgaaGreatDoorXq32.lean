/-
 A part of the proof.
-/
import Derived.Test.YtaikigponkjkgaaGreatDoorXq19

section
namespace Go.Proofs.YtaikigponkjkgaaGreatDoor
open Go.ChangeShapes Go.WideShapes Go.ChangeAt Go.RowKit
open Go.Lib (hid)
def maLight (x : Ml) : Bool := decide (x.shop.length ≤ 40) && decide (x.key.length ≤ 100) && lightB x.head && decide (x.body.length ≤ 300)
theorem ml_light_ok {x : Ml} (h : maLight x = true) : x.shop.length ≤ 40 ∧ x.key.length ≤ 100 ∧ lightB x.head = true ∧ x.body.length ≤ 300 := by
 unfold maLight at h
 simp only [Bool.and_eq_true, decide_eq_true_eq] at h
 exact ⟨h.1.1.1, h.1.1.2, h.1.2, h.2⟩
theorem ml_light_Ok {w : World} {x : Ml} {A : Option Addr} {c : Nat} (h : maLight x = true) (hc : x.head.length ≤ c) (hp : Prs w A x.head) : MaOk w x A c := by
 obtain ⟨h2, h3, h4, h5⟩ := ml_light_ok h
 obtain ⟨h6, h7, -⟩ := light_lite h4
 exact ⟨by omega, by omega, by omega, by omega, hc, h7, hp⟩
set_option maxRecDepth 100000 in
set_option maxHeartbeats 4000000 in
theorem ml_light_any (x : Ml) (A : Option Addr) (c : Nat) (w : World) (hl : x.head.length ≤ 9223372036854775807) (hp : Prs w A x.head) :
  Calls Tryz.prog 41 #[maV x A c] w fun e w' => e = .returned (.bool (maLight x)) ∧ Below w.heap.size w w' := by
 have HM0 := hid (MaX.start w x A c hp 50)
 have HLI := hid (fun W h => light9_any x.head A c W hl h)
 have HD : Hid (maLight x = (decide (x.shop.length ≤ 40) && decide (x.key.length ≤ 100) && lightB x.head && decide (x.body.length ≤ 300))) := rfl
 have s2 : (ofL x.shop).size = x.shop.length := ofL_size _
 have s3 : (ofL x.key).size = x.key.length := ofL_size _
 have s4 : (ofL x.body).size = x.body.length := ofL_size _
 generalize maLight x = LX at *
 generalize lightB x.head = LB at *
 simp only [maV]
 clear hp
 by_cases h1 : x.shop.length ≤ 40
 ·have g1 : (ofL x.shop).size ≤ 40 := by omega
  by_cases h3 : x.key.length ≤ 100
  ·have g3 : (ofL x.key).size ≤ 100 := by omega
   cases hb : LB with
   | false =>
    have HC := hid (show LX = false by rw [HD.out, hb]; simp)
    rw [hb] at HLI
    clear h1 h3 hb s2 s3 s4
    go_enter Tryz.func41, Tryz.ntmps41
    go_wp2_with fail
    refine (HLI.out _ HM0.out.ra).mono ?_
    rintro e w1 ⟨rfl, b1⟩
    have HM1 := hid (HM0.out.on b1)
    clear b1
    go_wp2_with fail
    go_ret
    exact ⟨ret_bool HC.out.symm, HM1.out.B⟩
   | true =>
    have HC := hid (show LX = decide (x.body.length ≤ 300) by rw [HD.out, hb, decide_eq_true h1, decide_eq_true h3]; simp)
    have hb4 : decide (((ofL x.body).size : Int) ≤ 300) = decide (x.body.length ≤ 300) := decide_eq_decide.2 (by omega)
    rw [hb] at HLI
    clear h1 h3 hb s2 s3 s4
    go_enter Tryz.func41, Tryz.ntmps41
    go_wp2_with fail
    refine (HLI.out _ HM0.out.ra).mono ?_
    rintro e w1 ⟨rfl, b1⟩
    have HM1 := hid (HM0.out.on b1)
    have lt1 := HM1.out.p.lt
    have cb := HM1.out.p.cs 4 _ rfl
    clear b1
    go_wp2_with fail
    go_ret
    exact ⟨ret_bool (by rw [HC.out, ← hb4]), HM1.out.B⟩
  ·have g3 : ¬ (ofL x.key).size ≤ 100 := by omega
   have HC := hid (show LX = false by rw [HD.out, decide_eq_false h3]; simp)
   clear h1 h3 s2 s3 s4
   go_enter Tryz.func41, Tryz.ntmps41
   go_wp2_with fail
   go_ret
   exact ⟨ret_bool HC.out.symm, HM0.out.B⟩
 ·have g1 : ¬ (ofL x.shop).size ≤ 40 := by omega
  have HC := hid (show LX = false by rw [HD.out, decide_eq_false h1]; simp)
  clear h1 s2 s3 s4
  go_enter Tryz.func41, Tryz.ntmps41
  go_wp2_with fail
  go_ret
  exact ⟨ret_bool HC.out.symm, HM0.out.B⟩
end Go.Proofs.YtaikigponkjkgaaGreatDoor
end
