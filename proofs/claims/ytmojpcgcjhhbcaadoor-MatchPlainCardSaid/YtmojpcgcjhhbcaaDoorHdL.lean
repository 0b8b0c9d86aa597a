/-
  THE CHAPTER's EXAMPLE; two heads held against each other: THE LAW HeadSame, walked.
-/
import Derived.Test.YtmojpcgcjhhbcaaDoorHdH
import Derived.Test.YtmojpcgcjhhbcaaDoorWordH
namespace Go.Proofs.YtmojpcgcjhhbcaaDoor
open Go.ChangeShapes Go.WideShapes Go.ChangeAt Go.RowKit

theorem law4Awake_any (w : World) (hL : Len w) : Calls Tryd.prog 36 #[] w fun e w' => e = .returned (.bool true) ∧ Below w.heap.size w w' := by
  have HA := Lib.hid (wawake_any w hL)
  go_enter Tryd.func36, Tryd.ntmps36
  go_wp2_with fail
  refine HA.out.mono ?_
  rintro x w1 ⟨rfl, b1⟩
  have B1 := Lib.hid b1
  clear b1
  go_wp2_with fail
  go_ret
  exact ⟨rfl, B1.out⟩
theorem lite_nil : Lite [] := fun i hi => absurd hi (by simp)
theorem hbytes_nil (w : World) : Calls Tryd.prog 12 #[.slice none 0 0] w fun e w' => e = .returned (.tuple #[.string ⟨#[0]⟩, .int .i64 0]) ∧ Below w.heap.size w w' := by
  have h := hbytes_any [] none 0 w (by simp) (by simp) lite_nil (Prs.nil _ _)
  rw [show hbytesV [] = .tuple #[.string ⟨#[0]⟩, .int .i64 0] from rfl] at h
  exact h
set_option maxHeartbeats 1000000 in
theorem awake9_any (w : World) (hL : Len w) : Calls Tryd.prog 9 #[] w fun e w' => e = .returned (.bool true) ∧ Below w.heap.size w w' := by
  have HL := Lib.hid hL
  clear hL
  have he : (({ data := #[0] } : ByteArray).toList == [0]) = true := by rw [ByteArray.toList_eq]; rfl
  go_enter Tryd.func9, Tryd.ntmps9
  go_wp2_with fail
  refine (hbytes_nil _).mono ?_
  rintro e w1 ⟨rfl, b1⟩
  have HL1 := Lib.hid (HL.out.on b1)
  have HB1 := Lib.hid b1
  clear b1
  go_wp2_with fail
  refine (octAwake2_any _).mono ?_
  rintro e w2 ⟨rfl, b2⟩
  have HL2 := Lib.hid (HL1.out.on b2)
  have HB2 := Lib.hid (bthen HB1.out b2 (Nat.le_refl _))
  clear b2
  go_wp2_with fail
  refine (law4Awake_any _ HL2.out).mono ?_
  rintro e w3 ⟨rfl, b3⟩
  have HB3 := Lib.hid (bthen HB2.out b3 (Nat.le_refl _))
  clear b3
  go_wp2_with fail
  go_ret
  exact ⟨rfl, HB3.out⟩
set_option maxRecDepth 100000 in
set_option maxHeartbeats 2000000 in
theorem headSame_walk (l m : List Hd.Pr) (A : Option Addr) (c : Nat) (B : Option Addr) (d : Nat) (w : World) (hl : l.length ≤ 9223372036854775807) (hm : m.length ≤ 9223372036854775807) (hA : Prs w A l) (hB : Prs w B m) (hL : Len w) :
    Calls Tryd.prog 5 #[.slice A l.length c, .slice B m.length d] w fun e w' => e = .returned (.bool true) ∧ Below w.heap.size w w' := by
  have HAW := Lib.hid (awake9_any w hL)
  have HLA := Lib.hid (fun W h => light9_any l A c W hl h)
  have HLB := Lib.hid (fun W h => light9_any m B d W hm h)
  have HP := Lib.hid hA
  have HQ := Lib.hid hB
  clear hA hB hL
  cases hla : lightB l with
  | false =>
    rw [hla] at HLA
    clear hla
    go_enter Tryd.func5, Tryd.ntmps5
    go_wp2_with fail
    refine HAW.out.mono ?_
    rintro e w1 ⟨rfl, b1⟩
    have HP1 := Lib.hid (HP.out.on b1)
    have HB1 := Lib.hid b1
    clear b1
    go_wp2_with fail
    refine (HLA.out _ HP1.out).mono ?_
    rintro e w2 ⟨rfl, b2⟩
    have HB2 := Lib.hid (bthen HB1.out b2 (Nat.le_refl _))
    clear b2
    go_wp2_with fail
    go_ret
    exact ⟨rfl, HB2.out⟩
  | true =>
    have hl2 := (light_lite hla).1
    rw [hla] at HLA
    clear hla
    cases hlb : lightB m with
    | false =>
      rw [hlb] at HLB
      clear hlb
      go_enter Tryd.func5, Tryd.ntmps5
      go_wp2_with fail
      refine HAW.out.mono ?_
      rintro e w1 ⟨rfl, b1⟩
      have HP1 := Lib.hid (HP.out.on b1)
      have HQ1 := Lib.hid (HQ.out.on b1)
      have HB1 := Lib.hid b1
      clear b1
      go_wp2_with fail
      refine (HLA.out _ HP1.out).mono ?_
      rintro e w2 ⟨rfl, b2⟩
      have HQ2 := Lib.hid (HQ1.out.on b2)
      have HB2 := Lib.hid (bthen HB1.out b2 (Nat.le_refl _))
      clear b2
      go_wp2_with fail
      refine (HLB.out _ HQ2.out).mono ?_
      rintro e w3 ⟨rfl, b3⟩
      have HB3 := Lib.hid (bthen HB2.out b3 (Nat.le_refl _))
      clear b3
      go_wp2_with fail
      go_ret
      exact ⟨rfl, HB3.out⟩
    | true =>
      have hm2 := (light_lite hlb).1
      rw [hlb] at HLB
      clear hlb
      have HS1 := Lib.hid (fun W h h' => hsame_any l m A c B d W (by omega) (by omega) h h')
      have HS2 := Lib.hid (fun W h h' => rsame9_any l m A c B d W (by omega) (by omega) h h')
      have HS3 := Lib.hid (fun W h h' => hsame_any l l A c A c W (by omega) (by omega) h h')
      rw [show decide (l = l) = true by simp] at HS3
      generalize decide (l = m) = M at *
      have hmm : (M == M) = true := by simp
      go_enter Tryd.func5, Tryd.ntmps5
      go_wp2_with fail
      refine HAW.out.mono ?_
      rintro e w1 ⟨rfl, b1⟩
      have HP1 := Lib.hid (HP.out.on b1)
      have HQ1 := Lib.hid (HQ.out.on b1)
      have HB1 := Lib.hid b1
      clear b1
      go_wp2_with fail
      refine (HLA.out _ HP1.out).mono ?_
      rintro e w2 ⟨rfl, b2⟩
      have HP2 := Lib.hid (HP1.out.on b2)
      have HQ2 := Lib.hid (HQ1.out.on b2)
      have HB2 := Lib.hid (bthen HB1.out b2 (Nat.le_refl _))
      clear b2
      go_wp2_with fail
      refine (HLB.out _ HQ2.out).mono ?_
      rintro e w3 ⟨rfl, b3⟩
      have HP3 := Lib.hid (HP2.out.on b3)
      have HQ3 := Lib.hid (HQ2.out.on b3)
      have HB3 := Lib.hid (bthen HB2.out b3 (Nat.le_refl _))
      clear b3
      go_wp2_with fail
      refine (HS1.out _ HP3.out HQ3.out).mono ?_
      rintro e w4 ⟨rfl, b4⟩
      have HP4 := Lib.hid (HP3.out.on b4)
      have HQ4 := Lib.hid (HQ3.out.on b4)
      have HB4 := Lib.hid (bthen HB3.out b4 (Nat.le_refl _))
      clear b4
      go_wp2_with fail
      refine (HS2.out _ HP4.out HQ4.out).mono ?_
      rintro e w5 ⟨rfl, b5⟩
      have HP5 := Lib.hid (HP4.out.on b5)
      have HB5 := Lib.hid (bthen HB4.out b5 (Nat.le_refl _))
      clear b5
      go_wp2_with fail
      refine (HS3.out _ HP5.out HP5.out).mono ?_
      rintro e w6 ⟨rfl, b6⟩
      have HB6 := Lib.hid (bthen HB5.out b6 (Nat.le_refl _))
      clear b6
      go_wp2_with fail
      go_ret
      exact ⟨rfl, HB6.out⟩
end Go.Proofs.YtmojpcgcjhhbcaaDoor
