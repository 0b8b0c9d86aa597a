/-
  THE DOCUMENT's OWN ORDER, walked.
-/
import Derived.Test.YtokljdaofjgihaaGreatDoorLatAwake
import Derived.Test.YtokljdaofjgihaaGreatDoorLatRight
namespace Go.Proofs.YtokljdaofjgihaaGreatDoor
open Go.ChangeShapes Go.WideShapes Go.ChangeAt Go.RowKit

/-- what the document's loop over the compartments keeps -/
def RunSt (al sa bl sb : Nat) (w : World) (g : Nat) (i : Value) (wr : World) : Prop :=
  ∃ k : Nat, k + g = 32 ∧ i = .int .i64 (k : Int) ∧ (∀ j, j < k → sa.testBit j = true → sb.testBit j = true) ∧
    Box w.heap.size (.int .u8 (al : Int)) (.int .u32 (sa : Int)) wr ∧ Box (w.heap.size + 1) (.int .u8 (bl : Int)) (.int .u32 (sb : Int)) wr ∧ Below w.heap.size w wr ∧ w.heap.size + 1 < wr.heap.size
theorem under_no {al sa bl sb k : Nat} (hk : k < 32) (h1 : sa.testBit k = true) (h2 : sb.testBit k = false) : false = Lat.under al sa bl sb := by
  have : Lat.sub sa sb = false := by
    cases h : Lat.sub sa sb
    · rfl
    · have := Lat.sub_iff.1 h k hk h1
      rw [h2] at this; exact this.symm
  unfold Lat.under; rw [this, Bool.and_false]
theorem under_yes {al sa bl sb : Nat} (hl : al ≤ bl) (h : ∀ j, j < 32 → sa.testBit j = true → sb.testBit j = true) : true = Lat.under al sa bl sb := by
  unfold Lat.under; rw [decide_eq_true hl, Lat.sub_iff.2 h]; rfl
theorem RunSt.next {al sa bl sb : Nat} {w : World} {k g : Nat} {wr w' : World} (hk : k + g = 32) (hg : 0 < g) (hs : ∀ j, j < k → sa.testBit j = true → sb.testBit j = true) (hx : sa.testBit k = true → sb.testBit k = true)
    (b1 : Box w.heap.size (.int .u8 (al : Int)) (.int .u32 (sa : Int)) wr) (b2 : Box (w.heap.size + 1) (.int .u8 (bl : Int)) (.int .u32 (sb : Int)) wr) (hB : Below w.heap.size w wr) (hz : w.heap.size + 1 < wr.heap.size) (hw : Below wr.heap.size wr w') :
    RunSt al sa bl sb w (g - 1) (.int .i64 ((k + 1 : Nat) : Int)) w' :=
  ⟨k + 1, by omega, rfl, fun j hj => by
    by_cases e : j = k
    · subst e; exact hx
    · exact hs j (by omega), b1.below hw (by omega), b2.below hw hz, Below.trans hB (hw.mono hB.size), Nat.lt_of_lt_of_le hz hw.size⟩
set_option maxHeartbeats 1000000 in
theorem refUnder_any (al sa bl sb : Nat) (w : World) :
    Calls Tryz.prog 38 #[.agg #[.int .u8 (al : Int), .int .u32 (sa : Int)], .agg #[.int .u8 (bl : Int), .int .u32 (sb : Int)]] w fun e w' => e = .returned (.bool (Lat.under al sa bl sb)) ∧ Below w.heap.size w w' := by
  by_cases h : al ≤ bl
  · have hst : RunSt al sa bl sb w 32 (.int .i64 0) ((w.alloc (.cells #[.int .u8 (al : Int), .int .u32 (sa : Int)] 70)).alloc (.cells #[.int .u8 (bl : Int), .int .u32 (sb : Int)] 70)) :=
      ⟨0, rfl, rfl, fun j hj => by omega, (Box.new _ _ _ w).below ((Below.refl _ _).alloc (Nat.le_refl _) _) (by simp), by
        have := Box.new (.int .u8 (bl : Int)) (.int .u32 (sb : Int)) 70 (w.alloc (.cells #[.int .u8 (al : Int), .int .u32 (sa : Int)] 70)); simpa using this, ((Below.refl _ _).alloc (Nat.le_refl _) _).alloc (by simp) _, by simp⟩
    have HST := Lib.hid hst
    have HU := Lib.hid (under_yes (al := al) (sa := sa) (bl := bl) (sb := sb) h)
    have HV := Lib.hid (fun k => under_no (al := al) (sa := sa) (bl := bl) (sb := sb) (k := k))
    clear hst
    have hd : decide (bl < al) = false := by simpa using h
    generalize Lat.under al sa bl sb = U at *
    go_enter Tryz.func38, Tryz.ntmps38
    go_wp2
    go_loopg [5] 32 (fun g i wr => RunSt al sa bl sb w g i wr)
    case atStart => exact HST.out
    case round =>
      obtain ⟨k, hk, rfl, hs, b1, b2, hB, hz⟩ := hrel
      have HS := Lib.hid hs
      have B1 := Lib.hid b1
      have B2 := Lib.hid b2
      have HB := Lib.hid hB
      obtain ⟨p0, p1, -⟩ := b1
      obtain ⟨q0, q1, -⟩ := b2
      clear hs hB
      by_cases hlt : k < 32
      · have HA := Lib.hid (fun W => has_any al sa k W hlt)
        have HB' := Lib.hid (fun W => has_any bl sb k W hlt)
        cases ha : sa.testBit k with
        | false =>
          rw [ha] at HA
          have HX := Lib.hid (show sa.testBit k = true → sb.testBit k = true by intro h; rw [ha] at h; cases h)
          clear ha
          go_wp2_with fail
          refine (HA.out _).mono ?_
          rintro e w1 ⟨rfl, hb1⟩
          have HB1 := Lib.hid hb1
          clear hb1
          go_wp2_with fail
          go_roundg (gk - 1)
          case rel => exact RunSt.next hk (by omega) HS.out HX.out B1.out B2.out HB.out hz HB1.out
          case measure => omega
        | true =>
          rw [ha] at HA
          cases hb : sb.testBit k with
          | true =>
            rw [hb] at HB'
            have HX := Lib.hid (show sa.testBit k = true → sb.testBit k = true from fun _ => hb)
            clear ha hb
            go_wp2_with fail
            refine (HA.out _).mono ?_
            rintro e w1 ⟨rfl, hb1⟩
            have HB1 := Lib.hid hb1
            obtain ⟨r0, r1, -⟩ := B2.out.below hb1 hz
            clear hb1
            go_wp2_with fail
            refine (HB'.out _).mono ?_
            rintro e w2 ⟨rfl, hb2⟩
            have HB2 := Lib.hid (Below.trans HB1.out (hb2.mono HB1.out.size))
            clear hb2
            go_wp2_with fail
            go_roundg (gk - 1)
            case rel => exact RunSt.next hk (by omega) HS.out HX.out B1.out B2.out HB.out hz HB2.out
            case measure => omega
          | false =>
            rw [hb] at HB'
            have HX := Lib.hid (HV.out k hlt ha hb)
            clear ha hb
            go_wp2_with fail
            refine (HA.out _).mono ?_
            rintro e w1 ⟨rfl, hb1⟩
            have HB1 := Lib.hid hb1
            obtain ⟨r0, r1, -⟩ := B2.out.below hb1 hz
            clear hb1
            go_wp2_with fail
            refine (HB'.out _).mono ?_
            rintro e w2 ⟨rfl, hb2⟩
            have HB2 := Lib.hid (Below.trans HB1.out (hb2.mono HB1.out.size))
            clear hb2
            go_wp2_with fail
            go_ret
            exact ⟨ret_bool HX.out, Below.trans HB.out (HB2.out.mono HB.out.size)⟩
      · obtain rfl : k = 32 := by omega
        have HX := Lib.hid (HU.out HS.out)
        go_wp2_with fail
        go_ret
        exact ⟨ret_bool HX.out, HB.out⟩
  · have H := Lib.hid (under_high al sa bl sb h)
    go_enter Tryz.func38, Tryz.ntmps38
    go_wp2
    go_ret
    exact ⟨ret_bool H.out, ((Below.refl _ _).alloc (Nat.le_refl _) _).alloc (by simp) _⟩
end Go.Proofs.YtokljdaofjgihaaGreatDoor
