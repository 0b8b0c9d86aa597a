/-
  THE CHAPTER'S EXAMPLE of a policy, walked.
-/
import Derived.Test.YtokljdaofjgihaaGreatDoorParI
import Derived.Test.YtokljdaofjgihaaGreatDoorWordH
namespace Go.Proofs.YtokljdaofjgihaaGreatDoor
open Go.ChangeShapes Go.WideShapes Go.ChangeAt Go.RowKit

def exT : List UInt8 := [119, 111, 114, 107, 32, 52, 10, 103, 105, 118, 101, 32, 49, 10, 108, 97, 98, 101, 108, 32, 108, 111, 119, 32, 48, 32, 53, 49, 50, 32, 49, 10, 115, 108, 111, 116, 32, 108, 111, 119]
def exPol : Pl.Pol := ⟨4, 1, [⟨[108, 111, 119], 0, 0, 512, 1⟩], [0], []⟩
theorem ex_parse : Pl.parse exT = (exPol, 0, 0) := by kernel_rfl
theorem ex_parse_at (w : World) (hE : Env w) : Calls Tryz.prog 17 #[.string ⟨#[119, 111, 114, 107, 32, 52, 10, 103, 105, 118, 101, 32, 49, 10, 108, 97, 98, 101, 108, 32, 108, 111, 119, 32, 48, 32, 53, 49, 50, 32, 49, 10, 115, 108, 111, 116, 32, 108, 111, 119]⟩] w (ParPost (exPol, 0, 0) w) := by
  have h := pparse_any exT w (by decide) hE
  rw [ex_parse] at h
  exact h
theorem awake3_any (w : World) : Calls Tryz.prog 35 #[] w fun x w' => x = .returned (.bool true) ∧ Below w.heap.size w w' := by
  go_enter Tryz.func35, Tryz.ntmps35
  go_wp2_with fail
  (with_reducible refine (awake_any _).mono ?_)
  rintro x w1 ⟨rfl, b1⟩
  have B1 := Lib.hid b1
  clear b1
  go_wp2_with fail
  go_ret
  exact ⟨rfl, B1.out⟩
theorem awake4_any (w : World) (hL : Len w) : Calls Tryz.prog 36 #[] w fun x w' => x = .returned (.bool true) ∧ Below w.heap.size w w' := by
  have H := Lib.hid (wawake_any w hL)
  clear hL
  go_enter Tryz.func36, Tryz.ntmps36
  go_wp2_with fail
  (with_reducible refine H.out.mono ?_)
  rintro x w1 ⟨rfl, b1⟩
  have B1 := Lib.hid b1
  clear b1
  go_wp2_with fail
  go_ret
  exact ⟨rfl, B1.out⟩
set_option maxHeartbeats 2000000 in
theorem awake5_any (w : World) (hE : Env w) : Calls Tryz.prog 9 #[] w fun x w' => x = .returned (.bool true) ∧ Below w.heap.size w w' := by
  have HP := Lib.hid (ex_parse_at w hE)
  have HE := Lib.hid hE
  clear hE
  go_enter Tryz.func9, Tryz.ntmps9
  go_wp2_with fail
  (with_reducible refine HP.out.mono ?_)
  rintro x w1 ⟨pa, pc, sa, sc, ga, gc, rfl, hp, hB⟩
  have HB1 := Lib.hid hB
  have hs : Below w1.heap.size w1 (w1.alloc (.cells #[.int .i64 4, .int .i64 1, .slice pa 1 pc, .slice sa 1 sc, .slice ga 0 gc] 26)) := (Below.refl _ _).alloc (Nat.le_refl _) _
  have HS := Lib.hid hs
  have HC := Lib.hid (Cell5.new w1 (.int .i64 4) (.int .i64 1) (.slice pa 1 pc) (.slice sa 1 sc) (.slice ga 0 gc) 26)
  have HPP := Lib.hid (hp.pl.on hs)
  have HE1 := Lib.hid ((HE.out.on hB).on hs)
  clear hp hB hs
  simp only [polV, exPol, List.length_cons, List.length_nil, Nat.zero_add]
  go_wp2_with fail
  (with_reducible refine (awake3_any _).mono ?_)
  rintro x w2 ⟨rfl, hB⟩
  have HB2 := Lib.hid (bthen (bthen HB1.out HS.out (Nat.le_refl _)) hB (Nat.le_refl _))
  have HC2 := Lib.hid (HC.out.on hB)
  have HP2 := Lib.hid (HPP.out.on hB)
  have HE2 := Lib.hid (HE1.out.on hB)
  clear hB
  go_wp2_with fail
  (with_reducible refine (awake4_any _ HE2.out.len).mono ?_)
  rintro x w3 ⟨rfl, hB⟩
  have HB3 := Lib.hid (bthen HB2.out hB (Nat.le_refl _))
  obtain ⟨c0, c1, c2, c3, c4⟩ := HC2.out.on hB
  obtain ⟨b, off, rfl, hbl, -, hat⟩ := (HP2.out.on hB).at_ 0 (by decide)
  obtain ⟨-, -, -, d3, -⟩ := hat
  have d3' : w3.cell? ⟨b, off + 3, none⟩ = some (.int .i64 512) := by simpa [exPol, Pl.plc] using d3
  clear hB d3
  go_wp2_with fail
  go_ret
  exact ⟨rfl, HB3.out⟩
theorem Awake5_any (w : World) (hE : Env w) : Calls Tryz.prog 61 #[] w fun x w' => x = .returned (.bool true) ∧ Below w.heap.size w w' := by
  have H := Lib.hid (awake5_any w hE)
  clear hE
  go_enter Tryz.func61, Tryz.ntmps61
  go_wp2_with fail
  (with_reducible refine H.out.mono ?_)
  rintro x w1 ⟨rfl, b1⟩
  have B1 := Lib.hid b1
  clear b1
  go_wp2_with fail
  go_ret
  exact ⟨rfl, B1.out⟩
end Go.Proofs.YtokljdaofjgihaaGreatDoor
