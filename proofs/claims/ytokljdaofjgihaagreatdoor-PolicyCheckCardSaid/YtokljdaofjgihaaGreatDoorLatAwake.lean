/-
  THE EXAMPLES of chapter 3: they come out true, and nothing that was there is written.
-/
import Derived.Test.YtokljdaofjgihaaGreatDoorLatParse
namespace Go.Proofs.YtokljdaofjgihaaGreatDoor
open Go.ChangeShapes Go.WideShapes Go.ChangeAt Go.RowKit

theorem octAwake2_any (w : World) : Calls Tryz.prog 87 #[] w fun x w' => x = .returned (.bool true) ∧ Below w.heap.size w w' := by
  go_enter Tryz.func87, Tryz.ntmps87
  go_wp2_with fail
  refine (octAwake_any _).mono ?_
  rintro x w1 ⟨rfl, b1⟩
  have B1 := Lib.hid b1
  clear b1
  go_wp2_with fail
  go_ret
  exact ⟨rfl, B1.out⟩
theorem parse_one (l : List UInt8) (a s c : Int) (h1 : ((Lat.parse l).1 : Int) = a) (h2 : ((Lat.parse l).2.1 : Int) = s) (h3 : ((Lat.parse l).2.2 : Int) = c) (hl : l.length < 100) (W : World) :
    Calls Tryz.prog 86 #[.string (ofL l)] W fun e w' => e = .returned (.tuple #[.agg #[.int .u8 a, .int .u32 s], .int .i64 c]) ∧ Below W.heap.size W w' := by
  have := parse_any l W (by omega)
  rw [h1, h2, h3] at this
  exact this
theorem under_one (al sa bl sb : Nat) (al' sa' bl' sb' : Int) (u : Bool) (h : Lat.under al sa bl sb = u) (e1 : (al : Int) = al') (e2 : (sa : Int) = sa') (e3 : (bl : Int) = bl') (e4 : (sb : Int) = sb') (h1 : sa < 4294967296) (h2 : sb < 4294967296) (W : World) :
    Calls Tryz.prog 85 #[.agg #[.int .u8 al', .int .u32 sa'], .agg #[.int .u8 bl', .int .u32 sb']] W fun e w' => e = .returned (.bool u) ∧ Below W.heap.size W w' := by
  have := under_any al sa bl sb W h1 h2
  rw [h, e1, e2, e3, e4] at this
  exact this
set_option maxHeartbeats 1000000 in
theorem awake_any (w : World) : Calls Tryz.prog 64 #[] w fun x w' => x = .returned (.bool true) ∧ Below w.heap.size w w' := by
  have H1 := Lib.hid (parse_one [50, 58, 48, 58, 53] 2 33 0 (by decide) (by decide) (by decide) (by decide))
  have H2 := Lib.hid (parse_one [51, 58, 48, 58, 53, 58, 55] 3 161 0 (by decide) (by decide) (by decide) (by decide))
  have H3 := Lib.hid (parse_one [51, 58, 53] 3 32 0 (by decide) (by decide) (by decide) (by decide))
  have U1 := Lib.hid (under_one 2 33 3 161 2 33 3 161 true (by decide) rfl rfl rfl rfl (by decide) (by decide))
  have U2 := Lib.hid (under_one 2 33 3 32 2 33 3 32 false (by decide) rfl rfl rfl rfl (by decide) (by decide))
  have U3 := Lib.hid (under_one 3 161 2 33 3 161 2 33 false (by decide) rfl rfl rfl rfl (by decide) (by decide))
  go_enter Tryz.func64, Tryz.ntmps64
  go_wp2_with fail
  refine (H1.out _).mono ?_
  rintro x w1 ⟨rfl, b1⟩
  have B1 := Lib.hid b1
  have X1 := Lib.hid (Box.new (.int .u8 2) (.int .u32 33) 70 w1)
  clear b1
  go_wp2_with fail
  refine (H2.out _).mono ?_
  rintro x w2 ⟨rfl, b2⟩
  have Y1 := Lib.hid (X1.out.below b2 (by simp))
  have Z1 := Lib.hid (show w1.heap.size < w2.heap.size by have := b2.size; simp at this; omega)
  have B2 := Lib.hid (Below.trans (B1.out.alloc B1.out.size (.cells #[.int .u8 2, .int .u32 33] 70)) (b2.mono (by have := B1.out.size; simp; omega)))
  have X2 := Lib.hid (Box.new (.int .u8 3) (.int .u32 161) 70 w2)
  clear b2 X1
  go_wp2_with fail
  refine (H3.out _).mono ?_
  rintro x w3 ⟨rfl, b3⟩
  have V1 := Lib.hid ((Y1.out.below ((Below.refl w2.heap.size w2).alloc (Nat.le_refl _) _) Z1.out).below b3 (by have := Z1.out; simp; omega))
  have V2 := Lib.hid (X2.out.below b3 (by simp))
  have Z2 := Lib.hid (show w2.heap.size < w3.heap.size by have := b3.size; simp at this; omega)
  have B3 := Lib.hid (Below.trans (B2.out.alloc B2.out.size (.cells #[.int .u8 3, .int .u32 161] 70)) (b3.mono (by have := B2.out.size; simp; omega)))
  have X3 := Lib.hid (Box.new (.int .u8 3) (.int .u32 32) 70 w3)
  clear b3 X2 Y1
  have Q1 := Lib.hid (V1.out.below ((Below.refl w3.heap.size w3).alloc (Nat.le_refl _) (.cells #[.int .u8 3, .int .u32 32] 70)) (by have := Z1.out; have := Z2.out; omega))
  have Q2 := Lib.hid (V2.out.below ((Below.refl w3.heap.size w3).alloc (Nat.le_refl _) (.cells #[.int .u8 3, .int .u32 32] 70)) Z2.out)
  have B4 := Lib.hid (B3.out.alloc B3.out.size (.cells #[.int .u8 3, .int .u32 32] 70))
  clear V1 V2
  go_wp2_with fail
  refine (octAwake2_any _).mono ?_
  rintro x w4 ⟨rfl, b4⟩
  have q1 := Q1.out.below b4 (by have := Z1.out; have := Z2.out; simp; omega)
  have q2 := Q2.out.below b4 (by have := Z2.out; simp; omega)
  have q3 := X3.out.below b4 (by simp)
  have z4 := b4.size
  have Z4 := Lib.hid (show w3.heap.size < w4.heap.size by simp at z4; omega)
  have B5 := Lib.hid (Below.trans B4.out (b4.mono (by have := B3.out.size; simp; omega)))
  have y1 : w1.heap.size < w4.heap.size := by have := Z1.out; have := Z2.out; have := Z4.out; omega
  have y2 : w2.heap.size < w4.heap.size := by have := Z2.out; have := Z4.out; omega
  have Y1 := Lib.hid y1
  have Y2 := Lib.hid y2
  have Q1 := Lib.hid q1
  have Q2 := Lib.hid q2
  have Q3 := Lib.hid q3
  obtain ⟨c0, c1, -⟩ := q1
  obtain ⟨d0, d1, -⟩ := q2
  clear b4 z4 q3 y1 y2
  go_wp2_with fail
  refine (U1.out _).mono ?_
  rintro x w5 ⟨rfl, b5⟩
  have q1 := Q1.out.below b5 Y1.out
  have q2 := Q2.out.below b5 Y2.out
  have q3 := Q3.out.below b5 Z4.out
  have S5 := Lib.hid b5.size
  have B6 := Lib.hid (Below.trans B5.out (b5.mono B5.out.size))
  clear b5 c0 c1 d0 d1
  have P1 := Lib.hid q1
  have P2 := Lib.hid q2
  obtain ⟨c0, c1, -⟩ := q1
  obtain ⟨e0, e1, -⟩ := q3
  clear q2
  go_wp2_with fail
  refine (U2.out _).mono ?_
  rintro x w6 ⟨rfl, b6⟩
  have q1 := P1.out.below b6 (Nat.lt_of_lt_of_le Y1.out S5.out)
  have q2 := P2.out.below b6 (Nat.lt_of_lt_of_le Y2.out S5.out)
  have B7 := Lib.hid (Below.trans B6.out (b6.mono B6.out.size))
  clear b6 c0 c1 e0 e1
  obtain ⟨c0, c1, -⟩ := q1
  obtain ⟨d0, d1, -⟩ := q2
  go_wp2_with fail
  refine (U3.out _).mono ?_
  rintro x w7 ⟨rfl, b7⟩
  have B8 := Lib.hid (Below.trans B7.out (b7.mono B7.out.size))
  clear b7 c0 c1 d0 d1
  go_wp2_with fail
  go_ret
  exact ⟨rfl, B8.out⟩
end Go.Proofs.YtokljdaofjgihaaGreatDoor
