/-
  THE LAWS ON DISKS: the chapter's example.
-/
import Derived.Test.YtpdgadohfhmcnaaDkL
namespace Go.Proofs.Ytpdgadohfhmcnaa
open Go.ChangeShapes Go.WideShapes Go.ChangeAt Go.RowKit

def ex1 : Dk.St := Dk.write 2 (Dk.new 2) 1 [97, 98]
def ex2 : Dk.St := Dk.down ex1 1
theorem ex_last : ofL ex2.last = ofL (List.replicate 64 0) ++ ⟨#[97]⟩ ++ ofL (List.replicate 63 0) := by decide +kernel
theorem ex_on : ex2.on = false := by decide +kernel
theorem ex_code : Dk.wcode 2 (Dk.new 2) 1 [97, 98] = 0 := by decide +kernel
theorem ex_w : ex1.wait.length ≤ 100000 := by decide +kernel
set_option maxHeartbeats 2000000 in
theorem awake15_any (w : World) : Calls Try.prog 7 #[] w fun e w' => e = .returned (.bool true) ∧ Below w.heap.size w w' := by
  have C1 := Lib.hid (one_new 2 w w (Below.refl _ _))
  have C2 := Lib.hid (fun D W (h : One 2 w D (Dk.new 2) [] W) => h.call (fun F hd => dkWrite_any 1 [97, 98] W hd (by decide) (by decide)))
  have C3 := Lib.hid (fun D W (h : One 2 w D ex1 [] W) => h.call (fun F hd => dkDown_any 1 W hd ex_w (by decide)))
  have C4 := Lib.hid (fun D W (h : One 2 w D ex2 [] W) => h.look (fun F hd => dkOn_any W hd))
  have C5 := Lib.hid (fun D W (h : One 2 w D ex2 [] W) => h.read (fun F hd => dkLasts_any W hd (by decide)))
  have C6 := Lib.hid (fun W => r15Noughts_any 64 W (by decide))
  have C7 := Lib.hid (fun W => r15Noughts_any 63 W (by decide))
  rw [show nbl 2 = 2 from rfl] at C1
  rw [show Dk.write 2 (Dk.new 2) 1 [97, 98] = ex1 from rfl, ex_code, show ofL [97, 98] = ⟨#[97, 98]⟩ from rfl] at C2
  rw [show Dk.down ex1 (Int.toNat 1) = ex2 from rfl] at C3
  rw [ex_on] at C4
  have hs := ex_last
  have hz4 : (ofL (List.replicate 64 0)).size = 64 := by rw [ofL_size]; rfl
  have hz3 : (ofL (List.replicate 63 0)).size = 63 := by rw [ofL_size]; rfl
  have hz1 : (⟨#[97]⟩ : ByteArray).size = 1 := rfl
  have hza : (ofL (List.replicate 64 0) ++ ⟨#[97]⟩).size = 65 := by rw [ByteArray.size_append, hz4]; rfl
  generalize ofL (List.replicate 64 0) = z4 at *
  generalize ofL (List.replicate 63 0) = z3 at *
  generalize ofL ex2.last = zz at *
  go_enter Try.func7, Try.ntmps7
  go_wp2_with fail
  refine C1.out.mono ?_
  rintro x w1 ⟨D, rfl, h1⟩
  have H1 := Lib.hid h1
  clear h1
  go_wp2_with fail
  refine (C2.out D _ H1.out).mono ?_
  rintro x w2 ⟨rfl, h2⟩
  have H2 := Lib.hid h2
  clear h2
  go_wp2_with fail
  refine (C3.out D _ H2.out).mono ?_
  rintro x w3 ⟨rfl, h3⟩
  have H3 := Lib.hid h3
  clear h3
  go_wp2_with fail
  refine (C4.out D _ H3.out).mono ?_
  rintro x w4 ⟨rfl, h4⟩
  have H4 := Lib.hid h4
  clear h4
  go_wp2_with fail
  refine (C5.out D _ H4.out).mono ?_
  rintro x w5 ⟨rfl, h5⟩
  have H5 := Lib.hid h5
  clear h5
  go_wp2_with fail
  refine (C6.out _).mono ?_
  rintro x w6 ⟨rfl, b6⟩
  have H6 := Lib.hid (H5.out.keep b6)
  clear b6
  go_wp2_with fail
  refine (C7.out _).mono ?_
  rintro x w7 ⟨rfl, b7⟩
  have H7 := Lib.hid (H6.out.keep b7)
  clear b7
  go_wp2_with fail
  go_ret
  exact ⟨by simp, H7.out.below⟩
end Go.Proofs.Ytpdgadohfhmcnaa
