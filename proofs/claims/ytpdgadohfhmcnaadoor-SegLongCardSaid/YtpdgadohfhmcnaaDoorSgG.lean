/-
  RECORDS: the chapter's example.
-/
import Derived.Test.YtpdgadohfhmcnaaDoorSgF
namespace Go.Proofs.YtpdgadohfhmcnaaDoor
open Go.ChangeShapes Go.WideShapes Go.ChangeAt Go.RowKit

theorem ex16_good : Sg.Good [97, 98] := ⟨by decide, by decide⟩
theorem ex16_encs : Sg.encs [[97, 98]] = Sg.enc [97, 98] := by simp [Sg.encs]
theorem ex16_code : bcode [[97, 98]] = 0 := by decide
theorem ex16_six : (Sg.enc [97, 98]).take 6 = [0, 0, 0, 2, 97, 98] := by
  have h := Sg.take_ahead [97, 98] []
  rw [List.append_nil] at h
  exact h
theorem ex16_end : (Sg.enc [97, 98]).getD 10 0 = 165 := by
  have h := Sg.end_enc [97, 98] []
  rw [List.append_nil] at h
  exact h
theorem ex16_next : snextV (Sg.enc [97, 98]) = .tuple #[.string ⟨#[97, 98]⟩, .int .i64 11, .int .i64 0] := by
  have h := Sg.code_enc [] ex16_good
  have h2 := Sg.rc_enc [] ex16_good
  have h3 := Sg.len4_enc (r := [97, 98]) [] (by decide)
  rw [List.append_nil] at h h2 h3
  unfold snextV
  rw [if_pos h, h2, h3]
  rfl
set_option maxHeartbeats 2000000 in
theorem awake16_any (w : World) (hT : Tab w) : Calls Tryd.prog 8 #[] w fun e w' => e = .returned (.bool true) ∧ Below w.heap.size w w' := by
  have C1 := Lib.hid (fun (W : World) (h : Sts W (some ⟨w.heap.size, 0, none⟩) [[97, 98]]) (hT : Tab W) => sgBytes_any (some ⟨w.heap.size, 0, none⟩) 1 [[97, 98]] W (by decide) (by decide) h hT)
  have hv : sbytesV [[97, 98]] = .tuple #[.string (ofL (Sg.enc [97, 98])), .int .i64 0] := by unfold sbytesV; rw [if_pos ex16_code, ex16_encs]
  have C2 := Lib.hid (fun W h => sgNext_any (Sg.enc [97, 98]) W (by rw [Sg.enc_len]; decide) h)
  have C3 := Lib.hid (fun W h => sgLaw2_any W h)
  have C4 := Lib.hid (fun W => sgSize_any [97, 98] W (by decide))
  rw [hv, show ([[97, 98]] : List (List UInt8)).length = 1 from rfl] at C1
  rw [ex16_next] at C2
  rw [show ofL [97, 98] = ⟨#[97, 98]⟩ from rfl, show ((([97, 98] : List UInt8).length + 9 : Nat) : Int) = 11 from rfl] at C4
  have hl : (Sg.enc [97, 98]).length = 11 := Sg.enc_len _
  have hx := fun W => idx_l (P := Tryd.prog) Tryd.underlying9 (Sg.enc [97, 98]) .i64 10 10 rfl (by omega) W
  rw [ex16_end, show (((165 : UInt8).toNat : Nat) : Int) = 165 from rfl] at hx
  have hs := fun W => slice_to_l (P := Tryd.prog) Tryd.underlying9 (Sg.enc [97, 98]) .i64 6 6 rfl (by omega) W
  rw [ex16_six, show ofL [0, 0, 0, 2, 97, 98] = ⟨#[0, 0, 0, 2, 97, 98]⟩ from rfl] at hs
  have hz : (ofL (Sg.enc [97, 98])).size = 11 := by rw [ofL_size]; exact hl
  generalize Sg.enc [97, 98] = E at *
  have HS := Lib.hid (show Sts (w.alloc (.cells #[.string ⟨#[97, 98]⟩] 9)) (some ⟨w.heap.size, 0, none⟩) [[97, 98]] from ⟨fun i hi => ⟨w.heap.size, 0, rfl, by simp, by
    have : i = 0 := by simpa using hi
    subst this
    rw [cell_new _ _ _ _ _ rfl]; rfl⟩⟩)
  have HT := Lib.hid (hT.alloc (.cells #[.string ⟨#[97, 98]⟩] 9))
  have HB := Lib.hid ((Below.refl w.heap.size w).alloc (Nat.le_refl _) (.cells #[.string ⟨#[97, 98]⟩] 9))
  clear hv hl hT
  go_enter Tryd.func8, Tryd.ntmps8
  go_wp2_with fail
  refine (C1.out _ HS.out HT.out).mono ?_
  rintro x w1 ⟨rfl, b1⟩
  have HT1 := Lib.hid (HT.out.below b1 HT.out.pos)
  have B1 := Lib.hid (bthen HB.out b1 (Nat.le_refl _))
  clear b1
  go_wp2_with fail
  refine (C2.out _ HT1.out).mono ?_
  rintro x w2 ⟨rfl, b2⟩
  have HT2 := Lib.hid (HT1.out.below b2 HT1.out.pos)
  have B2 := Lib.hid (bthen B1.out b2 (Nat.le_refl _))
  clear b2
  go_wp2_with fail
  refine (C3.out _ HT2.out).mono ?_
  rintro x w3 ⟨rfl, b3⟩
  have B3 := Lib.hid (bthen B2.out b3 (Nat.le_refl _))
  clear b3
  go_wp2_with fail
  refine (C4.out _).mono ?_
  rintro x w4 ⟨rfl, rfl⟩
  go_wp2_with fail
  go_ret
  exact ⟨rfl, B3.out⟩
end Go.Proofs.YtpdgadohfhmcnaaDoor
