/-
  FEEDS' SMALL CALLS; frames held against frames: walked. THE CHAPTER'S EXAMPLE of a feed, walked.
-/
import Derived.Test.YtnjlhafhgfpfiaaGreatDoorRb41

section
namespace Go.Proofs.YtnjlhafhgfpfiaaGreatDoor
open Go.ChangeShapes Go.WideShapes Go.ChangeAt Go.RowKit
theorem frest_any (r : ByteArray) (e : Int) (w : World) : Calls Tryz.prog 12 #[.agg #[.string r, .int .i64 e]] w fun x w' => x = .returned (.string r) ∧ Below w.heap.size w w' := by
  go_enter Tryz.func12, Tryz.ntmps12
  go_wp2_with fail
  go_ret
  exact ⟨rfl, (Below.refl _ _).alloc (Nat.le_refl _) _⟩
theorem ferr_any (r : ByteArray) (e : Int) (w : World) : Calls Tryz.prog 13 #[.agg #[.string r, .int .i64 e]] w fun x w' => x = .returned (.int .i64 e) ∧ Below w.heap.size w w' := by
  go_enter Tryz.func13, Tryz.ntmps13
  go_wp2_with fail
  go_ret
  exact ⟨rfl, (Below.refl _ _).alloc (Nat.le_refl _) _⟩
attribute [local go_sem ↓] frm_eql rfrm_eql
attribute [local go_sem] guardF guardRF
theorem law7Awake_any (w : World) (hT : Tab w) : Calls Tryz.prog 65 #[] w fun e w' => e = .returned (.bool true) ∧ Below w.heap.size w w' := by
  have H := Lib.hid (frmAwake_any w hT)
  clear hT
  go_enter Tryz.func65, Tryz.ntmps65
  go_wp2_with fail
  refine H.out.mono ?_
  rintro e w1 ⟨rfl, hb⟩
  go_wp2_with fail
  go_ret
  exact ⟨rfl, hb⟩
end Go.Proofs.YtnjlhafhgfpfiaaGreatDoor
end
section
namespace Go.Proofs.YtnjlhafhgfpfiaaGreatDoor
open Go.ChangeShapes Go.WideShapes Go.ChangeAt Go.RowKit
theorem Duo.drew {b : Nat} {x y : Value} {w : World} (h : Duo b x y w) : Duo b x y w.drew := ⟨h.c0, h.c1, h.fz⟩
theorem Frms.set {w : World} {A : Option Addr} {l : List Fr.Frame} (h : Frms w A l) {b i : Nat} (hn : ∀ a, A = some a → a.block ≠ b) (v : Value) : Frms (w.setCell ⟨b, i, none⟩ v) A l := ⟨fun j hj => by
  obtain ⟨g, off, rfl, hlt, c0, c1, c2⟩ := h.at_ j hj
  have hne : b ≠ g := fun e => hn _ rfl e.symm
  exact ⟨g, off, rfl, by simp [World.setCell]; exact hlt, (World.cell?_setCell_other _ _ _ _ (ne_blk hne)).trans c0, (World.cell?_setCell_other _ _ _ _ (ne_blk hne)).trans c1, (World.cell?_setCell_other _ _ _ _ (ne_blk hne)).trans c2⟩⟩
theorem takeV0 (fs : List Fr.Frame) (r : List UInt8) (A : Option Addr) (c : Nat) : TakeV (fs, r, 0) A c = .tuple #[.agg #[.string (ofL r), .int .i64 0], .slice A fs.length c] := rfl
def exF : Fr.Frame := ⟨1, 2, [97, 98]⟩
set_option maxRecDepth 100000 in
set_option maxHeartbeats 4000000 in
theorem fdAwake_any (w : World) (hT : Tab w) : Calls Tryz.prog 39 #[] w fun e w' => e = .returned (.bool true) ∧ Below w.heap.size w w' := by
  have H1 := Lib.hid (fun W h => fbytes_any 1 2 [97, 98] W (by decide) h)
  have hv : bytesV 1 2 [97, 98] = .tuple #[.string (ofL (Fr.enc 1 2 [97, 98])), .int .i64 0] := if_pos (by decide)
  rw [hv, show (((1 : UInt8).toNat : Nat) : Int) = 1 from rfl, show (((2 : UInt8).toNat : Nat) : Int) = 2 from rfl, show ofL [97, 98] = ⟨#[97, 98]⟩ from rfl] at H1
  have hl : (Fr.enc 1 2 [97, 98]).length = 11 := Fr.enc_length 1 2 [97, 98]
  have hz : (ofL (Fr.enc 1 2 [97, 98])).size = 11 := by rw [ofL_size]; exact hl
  have s1 := fun W => slice_to_l (P := Tryz.prog) Tryz.underlying9 (Fr.enc 1 2 [97, 98]) .i64 5 5 rfl (by omega) W
  have s2 := fun W => slice_from_l (P := Tryz.prog) Tryz.underlying9 (Fr.enc 1 2 [97, 98]) .i64 5 5 rfl (by omega) W
  have hcat : ofL (Fr.enc 1 2 [97, 98]) ++ ofL ((Fr.enc 1 2 [97, 98]).take 5) = ofL (Fr.enc 1 2 [97, 98] ++ (Fr.enc 1 2 [97, 98]).take 5) := ofL_app _ _
  have hz5 : (ofL ((Fr.enc 1 2 [97, 98]).take 5)).size = 5 := by rw [ofL_size, List.length_take]; omega
  have hc3 := Fr.short (c := 1) (k := 2) (b := [97, 98]) (j := 5) (by decide) (by omega)
  have f1 : Fr.feed ([] ++ (Fr.enc 1 2 [97, 98] ++ (Fr.enc 1 2 [97, 98]).take 5)) = ([exF], (Fr.enc 1 2 [97, 98]).take 5, 0) := by
    have := Fr.feed_enc (f := exF) ((Fr.enc 1 2 [97, 98]).take 5) (by decide)
    rw [Fr.feed_short hc3] at this
    exact this
  have f2 : Fr.feed ((Fr.enc 1 2 [97, 98]).take 5 ++ (Fr.enc 1 2 [97, 98]).drop 5) = ([exF], [], 0) := by
    rw [List.take_append_drop]
    have := Fr.feed_enc (f := exF) [] (by decide)
    rw [List.append_nil, Fr.feed_nil] at this
    exact this
  have T1 := Lib.hid (fun W h => take_ok [] (Fr.enc 1 2 [97, 98] ++ (Fr.enc 1 2 [97, 98]).take 5) W (by rw [List.length_append, List.length_take, hl]; decide) h)
  rw [f1] at T1
  have T2 := Lib.hid (fun W h => take_ok ((Fr.enc 1 2 [97, 98]).take 5) ((Fr.enc 1 2 [97, 98]).drop 5) W (by rw [List.length_take, List.length_drop, hl]; decide) h)
  rw [f2] at T2
  rw [show ofL [] = ⟨#[]⟩ from rfl] at T1
  generalize Fr.enc 1 2 [97, 98] ++ (Fr.enc 1 2 [97, 98]).take 5 = EE at *
  generalize (Fr.enc 1 2 [97, 98]).take 5 = E5 at *
  generalize (Fr.enc 1 2 [97, 98]).drop 5 = D5 at *
  generalize Fr.enc 1 2 [97, 98] = E at *
  have HT := Lib.hid hT
  clear hv hl hT hc3 f1 f2
  go_enter Tryz.func39, Tryz.ntmps39
  go_wp2_with fail
  refine (H1.out _ HT.out).mono ?_
  rintro e w1 ⟨rfl, b1⟩
  have HT1 := Lib.hid (HT.out.below b1 HT.out.pos)
  have B1 := Lib.hid b1
  clear b1
  go_wp2_with fail
  refine (law7Awake_any _ HT1.out).mono ?_
  rintro e w2 ⟨rfl, b2⟩
  have HT2 := Lib.hid (HT1.out.below b2 HT1.out.pos)
  have B2 := Lib.hid (bthen B1.out b2 (Nat.le_refl _))
  clear b2
  go_wp2_with fail
  refine (T1.out _ HT2.out).mono ?_
  rintro e w3 ⟨A, ca, rfl, -, -, hF, -, b3⟩
  rw [takeV0]
  have HT3 := Lib.hid ((HT2.out.below b3 HT2.out.pos).alloc (.cells #[.string (ofL E5), .int .i64 0] 41))
  have B3 := Lib.hid ((bthen B2.out b3 (Nat.le_refl _)).alloc (Nat.le_trans B2.out.size b3.size) (.cells #[.string (ofL E5), .int .i64 0] 41))
  have D3 := Lib.hid (Duo.new w3 (.string (ofL E5)) (.int .i64 0) 41)
  have hw3 := Nat.le_trans B2.out.size b3.size
  clear hF b3
  go_upto_region 5 with fail
  go_cut [3, 5] (fun s3 s5 wx => ∃ b A c, s3 = .pointer (some ⟨b, 0, none⟩) ∧ s5 = .slice A 1 c ∧ Duo b (.string ⟨#[]⟩) (.int .i64 0) wx ∧ Frms wx A [exF] ∧ Below w.heap.size w wx)
  case first =>
    have hlt := D3.out.lt
    have q0 := D3.out.c0
    have q1 := D3.out.c1
    have q2 := D3.out.fz 0
    have q3 := D3.out.fz 1
    have HT3d := Lib.hid (show Tab _ from fun i hi => (HT3.out i hi : (w3.alloc (.cells #[.string (ofL E5), .int .i64 0] 41)).drew.cell? _ = _))
    have HC := Lib.hid ((T2.out (w3.alloc (.cells #[.string (ofL E5), .int .i64 0] 41)).drew HT3d.out).mono (R' := fun e w' => ∃ A c, e = .returned (.tuple #[.agg #[.string ⟨#[]⟩, .int .i64 0], .slice A 1 c]) ∧ Duo w3.heap.size (.string (ofL E5)) (.int .i64 0) w' ∧ Frms w' A [exF] ∧ (∀ a, A = some a → a.block ≠ w3.heap.size) ∧ Below (w3.heap.size + 1) (w3.alloc (.cells #[.string (ofL E5), .int .i64 0] 41)).drew w') (fun e w' ⟨A, c, he, _, _, hF, hn, hb⟩ => ⟨A, c, he, D3.out.drew.on hb D3.out.drew.lt, hF, fun a ha => by have := hn a ha; simp at this; omega, by have := hb; simpa using this⟩))
    go_region_with (first | (go_at_call 11; refine HC.out.mono ?_; rintro e' w4 ⟨A2, ca2, rfl, D4, hF, hn4, b4⟩; have HN4 := Lib.hid hn4; clear hn4; have p0 := D4.c0; have p1 := D4.c1; have p2 := D4.fz 0; have p3 := D4.fz 1; have plt := D4.lt; have HD4 := Lib.hid D4; have HF4 := Lib.hid hF; have HB4 := Lib.hid b4; clear D4 hF b4))
    all_goals
      go_wp2_with fail
      go_meet
      have hB4 := (B3.out.drew.trans (HB4.out.mono (by have := B3.out.size; simp at this; omega)))
      exact ⟨_, _, _, rfl, rfl, (HD4.out.set0 _).set1 _, (HF4.out.set HN4.out _).set HN4.out _, (hB4.setCell (by simpa using hw3) _).setCell (by simpa using hw3) _⟩
  case rest =>
    obtain ⟨b, A2, c2, rfl, rfl, hD, hF, hB⟩ := hcut
    obtain ⟨g, off, rfl, hg, hat⟩ := hF.at_ 0 (by decide)
    have x2 := hat.c2
    rw [show (0 : Nat) * 3 = 0 from rfl] at x2
    have xe : (frm [exF] 0).b = [97, 98] := rfl
    rw [xe, show ofL [97, 98] = ⟨#[97, 98]⟩ from rfl] at x2
    simp only [Nat.add_zero] at x2
    have d0 := hD.c0
    have d1 := hD.c1
    have HB := Lib.hid hB
    have HD := Lib.hid hD
    clear hB hD hF hat
    go_wp2_with fail
    refine (frest_any _ _ _).mono ?_
    rintro e w5 ⟨rfl, b5⟩
    have HD5 := Lib.hid (HD.out.on b5 HD.out.lt)
    have HB5 := Lib.hid (bthen HB.out b5 (Nat.le_refl _))
    clear b5 d0 d1 x2
    have d0 := HD5.out.c0
    have d1 := HD5.out.c1
    go_wp2_with fail
    refine (ferr_any _ _ _).mono ?_
    rintro e w6 ⟨rfl, b6⟩
    have HB6 := Lib.hid (bthen HB5.out b6 (Nat.le_refl _))
    clear b6 d0 d1
    go_wp2_with fail
    go_ret
    exact ⟨rfl, HB6.out⟩
end Go.Proofs.YtnjlhafhgfpfiaaGreatDoor
end
