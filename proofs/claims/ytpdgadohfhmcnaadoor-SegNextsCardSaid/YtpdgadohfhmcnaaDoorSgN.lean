/-
  THE LAW SegNexts: the record at the front, and all of them, are the document's.
-/
import Derived.Test.YtpdgadohfhmcnaaDoorSgL
namespace Go.Proofs.YtpdgadohfhmcnaaDoor
open Go.ChangeShapes Go.WideShapes Go.ChangeAt Go.RowKit

theorem scan_len : ∀ (f : Nat) (l : List UInt8), (Sg.scan f l).1.length ≤ f
  | 0, _ => Nat.le_refl _
  | f + 1, l => by
    unfold Sg.scan
    split
    · simp only [List.length_cons]
      exact Nat.succ_le_succ (scan_len f _)
    · exact Nat.zero_le _
theorem all_len (l : List UInt8) : (Sg.all l).1.length ≤ l.length := scan_len _ _
set_option maxRecDepth 100000 in
set_option maxHeartbeats 4000000 in
theorem segNexts_walk (l : List UInt8) (w : World) (hT : Tab w) :
    Calls Tryd.prog 4 #[.string (ofL l)] w fun e w' => e = .returned (.bool true) ∧ Below w.heap.size w w' := by
  have hz : (ofL l).size = l.length := ofL_size l
  have HT := Lib.hid hT
  have HA := Lib.hid (awake16_any w hT)
  clear hT
  by_cases hl : 2000 < l.length
  · go_enter Tryd.func4, Tryd.ntmps4
    go_wp2_with fail
    refine HA.out.mono ?_
    rintro e w1 ⟨rfl, b1⟩
    have B1 := Lib.hid b1
    clear b1
    go_wp2_with fail
    go_ret
    exact ⟨rfl, B1.out⟩
  · have H1 := Lib.hid (fun W h => sgNext_any l W (by omega) h)
    have H2 := Lib.hid (fun W => r16Next_any l W (by omega))
    have H3 := Lib.hid (fun W h => sgScan_any l W (by omega) h)
    have H4 := Lib.hid (fun W => r16Scan_any l W (by omega))
    obtain ⟨a0, b0, c0, hf0⟩ := rnextV_form l
    rw [r16_same, hf0] at H1
    rw [hf0] at H2
    clear hf0
    have hsl : (Sg.all l).1.length ≤ 9223372036854775807 := by have := all_len l; omega
    generalize (Sg.all l).1 = rs at *
    generalize (Sg.all l).2 = n at *
    go_enter Tryd.func4, Tryd.ntmps4
    go_wp2_with fail
    refine HA.out.mono ?_
    rintro e w1 ⟨rfl, b1⟩
    have B1 := Lib.hid b1
    clear b1
    go_wp2_with fail
    refine (H1.out _ (HT.out.below B1.out HT.out.pos)).mono ?_
    rintro e w2 ⟨rfl, b2⟩
    have B2 := Lib.hid (bthen B1.out b2 (Nat.le_refl _))
    clear b2
    go_wp2_with fail
    refine (H2.out _).mono ?_
    rintro e w3 ⟨rfl, b3⟩
    have B3 := Lib.hid (bthen B2.out b3 (Nat.le_refl _))
    clear b3
    go_wp2_with fail
    refine (H3.out _ (HT.out.below B3.out HT.out.pos)).mono ?_
    rintro e w4 ⟨⟨A, c, rfl, h4⟩, b4⟩
    have B4 := Lib.hid (bthen B3.out b4 (Nat.le_refl _))
    have S4 := Lib.hid h4
    clear b4 h4
    go_wp2_with fail
    refine (H4.out _).mono ?_
    rintro e w5 ⟨⟨A', c', rfl, h5⟩, b5⟩
    have B5 := Lib.hid (bthen B4.out b5 (Nat.le_refl _))
    have S5 := Lib.hid (S4.out.on b5)
    have R5 := Lib.hid h5
    clear b5 h5
    go_wp2_with fail
    refine (r16Same_any A A' c c' rs _ hsl S5.out R5.out).mono ?_
    rintro e w6 ⟨rfl, b6⟩
    have B6 := Lib.hid (bthen B5.out b6 (Nat.le_refl _))
    clear b6
    go_wp2_with fail
    go_ret
    exact ⟨rfl, B6.out⟩
end Go.Proofs.YtpdgadohfhmcnaaDoor
