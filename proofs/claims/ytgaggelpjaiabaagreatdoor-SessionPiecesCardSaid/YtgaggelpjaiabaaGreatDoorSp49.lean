/-
  THE EXAMPLE of layer 28: walked.
-/
import Derived.Test.YtgaggelpjaiabaaGreatDoorSp48

section
namespace Go.Proofs.YtgaggelpjaiabaaGreatDoor
open Go.ChangeShapes Go.WideShapes Go.ChangeAt Go.RowKit
theorem law8AwakeS_any (w : World) (hT : Tab w) (_hL : Len w) : Calls Tryz.prog 17 #[] w fun e w' => e = .returned (.bool true) ∧ Below w.heap.size w w' := by
  have HA := Lib.hid (fdAwake_any w hT)
  clear hT _hL
  go_enter Tryz.func17, Tryz.ntmps17
  go_wp2_with fail
  refine HA.out.mono ?_
  rintro e w1 ⟨rfl, b1⟩
  have HB1 := Lib.hid b1
  clear b1
  go_wp2_with fail
  go_ret
  exact ⟨rfl, HB1.out⟩
theorem law11AwakeS_any (w : World) (hT : Tab w) (hL : Len w) : Calls Tryz.prog 18 #[] w fun e w' => e = .returned (.bool true) ∧ Below w.heap.size w w' := by
  have HA := Lib.hid (awake11_any w hT hL)
  clear hT hL
  go_enter Tryz.func18, Tryz.ntmps18
  go_wp2_with fail
  refine HA.out.mono ?_
  rintro e w1 ⟨rfl, b1⟩
  have HB1 := Lib.hid b1
  clear b1
  go_wp2_with fail
  go_ret
  exact ⟨rfl, HB1.out⟩
theorem law12AwakeS_any (w : World) (hT : Tab w) (hL : Len w) : Calls Tryz.prog 19 #[] w fun e w' => e = .returned (.bool true) ∧ Below w.heap.size w w' := by
  have HA := Lib.hid (awake12_any w hT hL)
  clear hT hL
  go_enter Tryz.func19, Tryz.ntmps19
  go_wp2_with fail
  refine HA.out.mono ?_
  rintro e w1 ⟨rfl, b1⟩
  have HB1 := Lib.hid b1
  clear b1
  go_wp2_with fail
  go_ret
  exact ⟨rfl, HB1.out⟩

def lw : List UInt8 := [108, 111, 119]
set_option maxRecDepth 100000 in
set_option maxHeartbeats 8000000 in
theorem awake28_any (w : World) (hT : Tab w) (hL : Len w) : Calls Tryz.prog 5 #[] w fun e w' => e = .returned (.bool true) ∧ Below w.heap.size w w' := by
  have HN := Lib.hid (fun W => show Calls Tryz.prog 9 #[.string ⟨#[108, 111, 119]⟩] W fun e w' => e = .returned (seV lw [] 0 false false) ∧ Below W.heap.size W w' from seNew_any lw W)
  have HP1 := Lib.hid (fun W => sePlanHello_any lw [] 0 0 W)
  have HP2 := Lib.hid (fun W => show Calls Tryz.prog 10 #[seV lw [] 0 true false, .agg #[.int .u8 0, .int .u8 0, .string ⟨#[]⟩, .string ⟨#[]⟩, .string ⟨#[]⟩, .slice none 0 0, .string ⟨#[]⟩, .int .u64 1, .int .u64 0, .bool false], .int .u64 ((0 : Nat) : Int)] W fun y w' => y = .returned (.tuple #[seV lw [] 0 true false, .slice none 0 0, .slice none 0 0, .int .i64 13]) ∧ Below W.heap.size W w' from sePlanNo_any lw [] 0 true false helloM none 0 0 W (by decide))
  have HA8 := Lib.hid (fun W h1 h2 => law8AwakeS_any W h1 h2)
  have HA11 := Lib.hid (fun W h1 h2 => law11AwakeS_any W h1 h2)
  have HA12 := Lib.hid (fun W h1 h2 => law12AwakeS_any W h1 h2)
  have HA27 := Lib.hid (fun W h2 => law27Awake_any W h2)
  have HT0 := Lib.hid hT
  have HL0 := Lib.hid hL
  clear hT hL
  go_enter Tryz.func5, Tryz.ntmps5
  go_wp2_with fail
  refine (HN.out _).mono ?_
  rintro e w1 ⟨rfl, b1⟩
  have HB1 := Lib.hid b1
  clear b1
  go_wp2_with fail
  refine (HP1.out _).mono ?_
  rintro e w2 ⟨g, rfl, hc, b2⟩
  have HB2 := Lib.hid (bthen HB1.out b2 (Nat.le_refl _))
  have HC2 := Lib.hid hc
  have HG2 := Lib.hid (World.block_lt_of_cell? w2 _ hc)
  clear b2 hc
  have HE3 := Lib.hid (BoxC.new (w := w) (W := w2) HB2.out.size (seL lw [] 0 true false).toArray 45)
  have HX3 := Lib.hid (rtOne w2 (.cells (seL lw [] 0 true false).toArray 45))
  have HB3 := Lib.hid (bthen HB2.out HX3.out (Nat.le_refl _))
  have HC3 := Lib.hid ((HX3.out.cell HG2.out).trans HC2.out)
  have HG3 := Lib.hid (Nat.lt_of_lt_of_le HG2.out HX3.out.size)
  go_upto_region 2 with (refine wpList_store_new2 (by rfl) 45 _ _ (by rfl) _ (seL lw [] 0 true false).toArray (by rfl) (by rfl) (by rw [se_size]; rfl) (by rfl) (se_all _ _ _ _ _) ?_)
  clear HC2 HG2 HX3
  generalize hg2 : w2.heap.size = g2 at *
  generalize w2.alloc (.cells (seL lw [] 0 true false).toArray 45) = w3 at *
  go_wp2_with (refine wpList_load_mid (by rfl) 45 _ (by rfl) g2 0 (by rfl) (seL lw [] 0 true false) _ HE3.out.cs.range Tryz.underlying45 rfl (by rw [se_size, seL_len]) ?_)
  refine (HP2.out _).mono ?_
  rintro e w4 ⟨rfl, b4⟩
  have HB4 := Lib.hid (bthen HB3.out b4 (Nat.le_refl _))
  have HC4 := Lib.hid ((b4.cell HG3.out).trans HC3.out)
  have HG4 := Lib.hid (Nat.lt_of_lt_of_le HG3.out b4.size)
  clear b4
  have HX5 := Lib.hid (rtOne w4 (.cells (seL lw [] 0 true false).toArray 45))
  have HB5 := Lib.hid (bthen HB4.out HX5.out (Nat.le_refl _))
  have HC5 := Lib.hid ((HX5.out.cell HG4.out).trans HC4.out)
  have HG5 := Lib.hid (Nat.lt_of_lt_of_le HG4.out HX5.out.size)
  go_upto_region 3 with (refine wpList_store_new2 (by rfl) 45 _ _ (by rfl) _ (seL lw [] 0 true false).toArray (by rfl) (by rfl) (by rw [se_size]; rfl) (by rfl) (se_all _ _ _ _ _) ?_)
  clear HC4 HG4 HX5
  generalize w4.alloc (.cells (seL lw [] 0 true false).toArray 45) = w5 at *
  go_wp2_with fail
  refine (HA8.out _ (tab_onS HT0.out HB5.out) (HL0.out.on HB5.out)).mono ?_
  rintro e w6 ⟨rfl, b6⟩
  have HB6 := Lib.hid (bthen HB5.out b6 (Nat.le_refl _))
  have HC6 := Lib.hid ((b6.cell HG5.out).trans HC5.out)
  have HG6 := Lib.hid (Nat.lt_of_lt_of_le HG5.out b6.size)
  clear b6
  go_wp2_with fail
  refine (HA11.out _ (tab_onS HT0.out HB6.out) (HL0.out.on HB6.out)).mono ?_
  rintro e w7 ⟨rfl, b7⟩
  have HB7 := Lib.hid (bthen HB6.out b7 (Nat.le_refl _))
  have HC7 := Lib.hid ((b7.cell HG6.out).trans HC6.out)
  have HG7 := Lib.hid (Nat.lt_of_lt_of_le HG6.out b7.size)
  clear b7
  go_wp2_with fail
  refine (HA12.out _ (tab_onS HT0.out HB7.out) (HL0.out.on HB7.out)).mono ?_
  rintro e w8 ⟨rfl, b8⟩
  have HB8 := Lib.hid (bthen HB7.out b8 (Nat.le_refl _))
  have HC8 := Lib.hid ((b8.cell HG7.out).trans HC7.out)
  have HG8 := Lib.hid (Nat.lt_of_lt_of_le HG7.out b8.size)
  clear b8
  go_wp2_with fail
  refine (HA27.out _ (HL0.out.on HB8.out)).mono ?_
  rintro e w9 ⟨rfl, b9⟩
  have HB9 := Lib.hid (bthen HB8.out b9 (Nat.le_refl _))
  have hc9 := (b9.cell HG8.out).trans HC8.out
  have hg9 := Nat.lt_of_lt_of_le HG8.out b9.size
  try dsimp only at hg9
  clear b9
  go_wp2_with fail
  go_ret
  exact ⟨rfl, HB9.out⟩
end Go.Proofs.YtgaggelpjaiabaaGreatDoor
end
