/-
  THE FRAME THAT BYTES BEGIN WITH, by the document, walked. FRAMES HELD AGAINST EACH OTHER; the chapter's example; the laws on what is read, what is missing, what is turned: walked.
-/
import Derived.Test.YtaoidjjmeejbbaaDoorMs03
import Derived.Test.YtaoidjjmeejbbaaDoorMs45
import Derived.Deep.QuietTactic
import Derived.BigQuiet
import Derived.Laws.StructEq
import Derived.Laws.IdiomStrings
section
namespace Go.Proofs.YtaoidjjmeejbbaaDoor
open Go.ChangeShapes Go.WideShapes Go.ChangeAt Go.RowKit
def TriB (w a : World) : Prop := Tri w.heap.size (.int .u8 0) (.int .u8 0) (.string ⟨#[]⟩) a ∧ Below w.heap.size w a
theorem TriB.on {w a a' : World} (h : TriB w a) (hb : Below a.heap.size a a') : TriB w a' := ⟨h.1.on hb h.1.lt, bthen h.2 hb (Nat.le_refl _)⟩
theorem TriB.drew {w a : World} (h : TriB w a) : TriB w a.drew := ⟨⟨h.1.c0, h.1.c1, h.1.c2, h.1.fz⟩, h.2.drew⟩
theorem Tri.drewN {b : Nat} {x y z : Value} {w : World} (h : Tri b x y z w) (n : Nat) : Tri b x y z (w.drewN n) := ⟨h.c0, h.c1, h.c2, h.fz⟩
end Go.Proofs.YtaoidjjmeejbbaaDoor
end
section
namespace Go.Proofs.YtaoidjjmeejbbaaDoor
open Go.ChangeShapes Go.WideShapes Go.ChangeAt Go.RowKit
theorem law1Awake_any (w : World) : Calls Tryd.prog 91 #[] w fun e w' => e = .returned (.bool true) ∧ Below w.heap.size w w' := by
  have H := Lib.hid (octAwake_any w)
  go_enter Tryd.func91, Tryd.ntmps91
  go_wp2_with fail
  refine H.out.mono ?_
  rintro e w1 ⟨rfl, hb⟩
  go_wp2_with fail
  go_ret
  exact ⟨rfl, hb⟩
theorem law2Awake_any (w : World) (hT : Tab w) : Calls Tryd.prog 92 #[] w fun e w' => e = .returned (.bool true) ∧ Below w.heap.size w w' := by
  have H := Lib.hid (crcAwake_any w hT)
  clear hT
  go_enter Tryd.func92, Tryd.ntmps92
  go_wp2_with fail
  refine H.out.mono ?_
  rintro e w1 ⟨rfl, hb⟩
  go_wp2_with fail
  go_ret
  exact ⟨rfl, hb⟩
set_option maxHeartbeats 1000000 in
theorem frmAwake_any (w : World) (hT : Tab w) : Calls Tryd.prog 62 #[] w fun e w' => e = .returned (.bool true) ∧ Below w.heap.size w w' := by
  have H1 := Lib.hid (fun W h => fbytes_any 1 2 [] W (by decide) h)
  have hv : bytesV 1 2 [] = .tuple #[.string (ofL (Fr.enc 1 2 [])), .int .i64 0] := if_pos (by decide)
  rw [hv, show (((1 : UInt8).toNat : Nat) : Int) = 1 from rfl, show (((2 : UInt8).toNat : Nat) : Int) = 2 from rfl, show ofL [] = ⟨#[]⟩ from rfl] at H1
  have hl : (Fr.enc 1 2 []).length = 9 := Fr.enc_length 1 2 []
  have h8 : (Fr.enc 1 2 []).getD 8 0 = 206 := by
    rw [Fr.enc_form0]
    exact Fr.form_end (Oct.length_be _ _)
  have hx := fun W => idx_l (P := Tryd.prog) Tryd.underlying9 (Fr.enc 1 2 []) .i64 8 8 rfl (by omega) W
  rw [h8, show (((206 : UInt8).toNat : Nat) : Int) = 206 from rfl] at hx
  have hz : (ofL (Fr.enc 1 2 [])).size = 9 := by rw [ofL_size]; exact hl
  generalize Fr.enc 1 2 [] = E at *
  have HT := Lib.hid hT
  clear hv hl h8 hT
  go_enter Tryd.func62, Tryd.ntmps62
  go_wp2_with fail
  refine (H1.out _ HT.out).mono ?_
  rintro e w1 ⟨rfl, b1⟩
  have HT1 := Lib.hid (HT.out.below b1 HT.out.pos)
  have B1 := Lib.hid b1
  clear b1
  go_wp2_with fail
  refine (law1Awake_any _).mono ?_
  rintro e w2 ⟨rfl, b2⟩
  have HT2 := Lib.hid (HT1.out.below b2 HT1.out.pos)
  have B2 := Lib.hid (bthen B1.out b2 (Nat.le_refl _))
  clear b2
  go_wp2_with fail
  refine (law2Awake_any _ HT2.out).mono ?_
  rintro e w3 ⟨rfl, b3⟩
  have B3 := Lib.hid (bthen B2.out b3 (Nat.le_refl _))
  clear b3
  go_wp2_with fail
  go_ret
  exact ⟨rfl, B3.out⟩
end Go.Proofs.YtaoidjjmeejbbaaDoor
end
