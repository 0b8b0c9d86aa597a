/-
 A part of the proof.
-/
import Derived.Test.YtaikigponkjkgaaGreatDoorXr11
import Derived.Test.YtaikigponkjkgaaGreatDoorXr14

section
namespace Go.Proofs.YtaikigponkjkgaaGreatDoor
open Go.ChangeShapes Go.WideShapes Go.ChangeAt Go.RowKit
open Go.Lib (hid)
def exP : List UInt8 := [97, 46, 42, 46, 35]
def exA : List UInt8 := [97, 46, 98]
def exB : List UInt8 := [97, 46, 98, 46, 99, 46, 100]
def exC : List UInt8 := [97]
def exN : List UInt8 := [97, 45, 49]
theorem ex_a : Wrd.matches' (Wrd.words exP) (Wrd.words exA) = true := by rw [← Wrd.row_all]; decide
theorem ex_b : Wrd.matches' (Wrd.words exP) (Wrd.words exB) = true := by rw [← Wrd.row_all]; decide
theorem ex_c : Wrd.matches' (Wrd.words exP) (Wrd.words exC) = false := by rw [← Wrd.row_all]; decide
theorem ex_n : Wrd.nameCode exN = 0 := by decide
theorem ex_a_at (w : World) (hL : Len w) : Calls Tryz.prog 135 #[.string ⟨#[97, 46, 42, 46, 35]⟩, .string ⟨#[97, 46, 98]⟩] w fun e w' => e = .returned (.bool true) ∧ Below w.heap.size w w' := by
 have h := matches_any exP exA w (by decide) (by decide) hL
 rw [ex_a] at h
 exact h
theorem ex_b_at (w : World) (hL : Len w) : Calls Tryz.prog 135 #[.string ⟨#[97, 46, 42, 46, 35]⟩, .string ⟨#[97, 46, 98, 46, 99, 46, 100]⟩] w fun e w' => e = .returned (.bool true) ∧ Below w.heap.size w w' := by
 have h := matches_any exP exB w (by decide) (by decide) hL
 rw [ex_b] at h
 exact h
theorem ex_c_at (w : World) (hL : Len w) : Calls Tryz.prog 135 #[.string ⟨#[97, 46, 42, 46, 35]⟩, .string ⟨#[97]⟩] w fun e w' => e = .returned (.bool false) ∧ Below w.heap.size w w' := by
 have h := matches_any exP exC w (by decide) (by decide) hL
 rw [ex_c] at h
 exact h
theorem ex_n_at (w : World) : Calls Tryz.prog 76 #[.string ⟨#[97, 45, 49]⟩] w fun e w' => e = .returned (.int .i64 0) ∧ w = w' := by
 have h := name_any exN w (by decide)
 rw [ex_n] at h
 exact h
set_option maxHeartbeats 1000000 in
theorem wawake_any (w : World) (hL : Len w) : Calls Tryz.prog 115 #[] w fun e w' => e = .returned (.bool true) ∧ Below w.heap.size w w' := by
 have HA := hid (ex_a_at w hL)
 have HL := hid hL
 clear hL
 go_enter Tryz.func115, Tryz.ntmps115
 go_wp2_with fail
 refine HA.out.mono ?_
 rintro e w1 ⟨rfl, hB1⟩
 have HL1 := hid (HL.out.on hB1)
 have HB1 := hid hB1
 clear hB1
 go_wp2_with fail
 refine (ex_b_at _ HL1.out).mono ?_
 rintro e w2 ⟨rfl, hB⟩
 have HL2 := hid (HL1.out.on hB)
 have HB2 := hid (HB1.out.trans (hB.mono HB1.out.size))
 clear hB
 go_wp2_with fail
 refine (ex_c_at _ HL2.out).mono ?_
 rintro e w3 ⟨rfl, hB⟩
 have HB3 := hid (HB2.out.trans (hB.mono HB2.out.size))
 clear hB
 go_wp2_with fail
 refine (ex_n_at _).mono ?_
 rintro e w' ⟨rfl, rfl⟩
 go_wp2_with fail
 go_ret
 exact ⟨rfl, HB3.out⟩
theorem law4Awake_any (w : World) (hL : Len w) : Calls Tryz.prog 87 #[] w fun e w' => e = .returned (.bool true) ∧ Below w.heap.size w w' := by
 have HA := hid (wawake_any w hL)
 go_enter Tryz.func87, Tryz.ntmps87
 go_wp2_with fail
 refine HA.out.mono ?_
 rintro x w1 ⟨rfl, b1⟩
 have B1 := hid b1
 clear b1
 go_wp2_with fail
 go_ret
 exact ⟨rfl, B1.out⟩
theorem lite_nil : Lite [] := fun i hi => absurd hi (by simp)
theorem hbytes_nil (w : World) : Calls Tryz.prog 80 #[.slice none 0 0] w fun e w' => e = .returned (.tuple #[.string ⟨#[0]⟩, .int .i64 0]) ∧ Below w.heap.size w w' := by
 have h := hbytes_any [] none 0 w (by simp) (by simp) lite_nil (Prs.nil _ _)
 rw [show hbytesV [] = .tuple #[.string ⟨#[0]⟩, .int .i64 0] from rfl] at h
 exact h
set_option maxHeartbeats 1000000 in
theorem awake9_any (w : World) (hL : Len w) : Calls Tryz.prog 106 #[] w fun e w' => e = .returned (.bool true) ∧ Below w.heap.size w w' := by
 have HL := hid hL
 clear hL
 have he : (({ data := #[0] } : ByteArray).toList == [0]) = true := by rw [ByteArray.toList_eq]; rfl
 go_enter Tryz.func106, Tryz.ntmps106
 go_wp2_with fail
 refine (hbytes_nil _).mono ?_
 rintro e w1 ⟨rfl, b1⟩
 have HL1 := hid (HL.out.on b1)
 have HB1 := hid b1
 clear b1
 go_wp2_with fail
 refine (octAwake2_any _).mono ?_
 rintro e w2 ⟨rfl, b2⟩
 have HL2 := hid (HL1.out.on b2)
 have HB2 := hid (bthen HB1.out b2 (Nat.le_refl _))
 clear b2
 go_wp2_with fail
 refine (law4Awake_any _ HL2.out).mono ?_
 rintro e w3 ⟨rfl, b3⟩
 have HB3 := hid (bthen HB2.out b3 (Nat.le_refl _))
 clear b3
 go_wp2_with fail
 go_ret
 exact ⟨rfl, HB3.out⟩
def ruSame (r s : Ru) : Bool := (r.sort == s.sort) && (r.key == s.key) && (r.all == s.all) && decide (r.want = s.want)
set_option maxHeartbeats 4000000 in
theorem mSame_any (r s : Ru) (A : Option Addr) (c : Nat) (B : Option Addr) (d : Nat) (w : World) (hl : r.want.length ≤ 100000) (hm : s.want.length ≤ 100000) (hA : Prs w A r.want) (hB : Prs w B s.want) :
  Calls Tryz.prog 141 #[ruV r A c, ruV s B d] w fun e w' => e = .returned (.bool (ruSame r s)) ∧ Below w.heap.size w w' := by
 have HB0 := hid (show Below w.heap.size w ((w.alloc (.cells #[.int .u8 (r.sort : Int), .string (ofL r.key), .slice A r.want.length c, .bool r.all] 172)).alloc (.cells #[.int .u8 (s.sort : Int), .string (ofL s.key), .slice B s.want.length d, .bool s.all] 172)) from ((Below.refl _ _).alloc (Nat.le_refl _) _).alloc (by simp) _)
 have HPA := hid (hA.on HB0.out)
 have HPB := hid (hB.on HB0.out)
 have HW := hid (fun W h1 h2 => hsame_any r.want s.want A c B d W hl hm h1 h2)
 have HX : Hid (ruSame r s = ((r.sort == s.sort) && (r.key == s.key) && (r.all == s.all) && decide (r.want = s.want))) := rfl
 clear hA hB
 generalize decide (r.want = s.want) = M at *
 have h1 := cast_beq r.sort s.sort
 have h2 := str_same r.key s.key
 simp only [ruV]
 cases e1 : r.sort == s.sort with
 | false =>
  rw [e1] at h1
  have HC := hid (show ruSame r s = false by rw [HX.out, e1]; rfl)
  clear e1
  go_enter Tryz.func141, Tryz.ntmps141
  go_wp2_with fail
  go_ret
  exact ⟨ret_bool HC.out.symm, HB0.out⟩
 | true =>
  rw [e1] at h1
  cases e2 : r.key == s.key with
  | false =>
   rw [e2] at h2
   have HC := hid (show ruSame r s = false by rw [HX.out, e1, e2]; rfl)
   clear e1 e2
   go_enter Tryz.func141, Tryz.ntmps141
   go_wp2_with fail
   go_ret
   exact ⟨ret_bool HC.out.symm, HB0.out⟩
  | true =>
   rw [e2] at h2
   cases e3 : r.all == s.all with
   | false =>
    have HC := hid (show ruSame r s = false by rw [HX.out, e1, e2, e3]; rfl)
    clear e1 e2
    go_enter Tryz.func141, Tryz.ntmps141
    go_wp2_with fail
    go_ret
    exact ⟨ret_bool HC.out.symm, HB0.out⟩
   | true =>
    have HC := hid (show ruSame r s = M by rw [HX.out, e1, e2, e3]; simp)
    clear e1 e2
    go_enter Tryz.func141, Tryz.ntmps141
    go_wp2_with fail
    refine (HW.out _ HPA.out HPB.out).mono ?_
    rintro e w1 ⟨rfl, b1⟩
    have HB1 := hid (bthen HB0.out b1 (Nat.le_refl _))
    clear b1
    go_wp2_with fail
    go_ret
    exact ⟨ret_bool HC.out.symm, HB1.out⟩
def exR : Ru := ⟨2, [97, 46, 35], [], false⟩
theorem exR_code : ruCode exR = 0 := by decide
theorem exR_yes : goesB exR [97, 46, 98] [] = true := by rw [goes_2 rfl, ← Wrd.row_all]; decide
theorem exR_no : goesB exR [98] [] = false := by rw [goes_2 rfl, ← Wrd.row_all]; decide
theorem exR_ok (w : World) : RuOk w exR none 0 := ⟨by decide, by decide, by decide, lite_nil, Prs.nil _ _⟩
theorem ex_check (w : World) (hL : Len w) : Calls Tryz.prog 131 #[.agg #[.int .u8 2, .string ⟨#[97, 46, 35]⟩, .slice none 0 0, .bool false]] w fun e w' => e = .returned (.int .i64 0) ∧ Below w.heap.size w w' := by
 have h := mCheck_any exR none 0 w (exR_ok w) hL
 rw [exR_code] at h
 exact h
theorem ex_yes (w : World) (hL : Len w) : Calls Tryz.prog 134 #[.agg #[.int .u8 2, .string ⟨#[97, 46, 35]⟩, .slice none 0 0, .bool false], .string ⟨#[97, 46, 98]⟩, .slice none 0 0] w fun e w' => e = .returned (.bool true) ∧ Below w.heap.size w w' := by
 have h := mGoes_any exR none 0 [97, 46, 98] [] none 0 w (exR_ok w) (by decide) (by decide) (by decide) (Prs.nil _ _) hL
 rw [exR_yes] at h
 exact h
theorem ex_no (w : World) (hL : Len w) : Calls Tryz.prog 134 #[.agg #[.int .u8 2, .string ⟨#[97, 46, 35]⟩, .slice none 0 0, .bool false], .string ⟨#[98]⟩, .slice none 0 0] w fun e w' => e = .returned (.bool false) ∧ Below w.heap.size w w' := by
 have h := mGoes_any exR none 0 [98] [] none 0 w (exR_ok w) (by decide) (by decide) (by decide) (Prs.nil _ _) hL
 rw [exR_no] at h
 exact h
theorem law9Awake_any (w : World) (hL : Len w) : Calls Tryz.prog 83 #[] w fun e w' => e = .returned (.bool true) ∧ Below w.heap.size w w' := by
 have HA := hid (awake9_any w hL)
 go_enter Tryz.func83, Tryz.ntmps83
 go_wp2_with fail
 refine HA.out.mono ?_
 rintro x w1 ⟨rfl, b1⟩
 have B1 := hid b1
 clear b1
 go_wp2_with fail
 go_ret
 exact ⟨rfl, B1.out⟩
set_option maxHeartbeats 2000000 in
theorem awake10_any (w : World) (hL : Len w) : Calls Tryz.prog 116 #[] w fun e w' => e = .returned (.bool true) ∧ Below w.heap.size w w' := by
 have HB0 := hid (show Below w.heap.size w (w.alloc (.cells #[.int .u8 2, .string ⟨#[97, 46, 35]⟩, .slice none 0 0, .bool false] 172)) from (Below.refl _ _).alloc (Nat.le_refl _) _)
 have HC0 := hid (Cels.new w #[.int .u8 2, .string ⟨#[97, 46, 35]⟩, .slice none 0 0, .bool false] 172)
 have HL0 := hid (hL.on HB0.out)
 clear hL
 go_enter Tryz.func116, Tryz.ntmps116
 go_wp2_with fail
 generalize w.alloc (.cells #[.int .u8 2, .string ⟨#[97, 46, 35]⟩, .slice none 0 0, .bool false] 172) = w0 at *
 have hlt0 : w.heap.size < w0.heap.size := World.block_lt_of_cell? w0 _ (HC0.out 0 _ rfl)
 refine (law4Awake_any _ HL0.out).mono ?_
 rintro e w1 ⟨rfl, b1⟩
 have HL1 := hid (HL0.out.on b1)
 have HC1 := hid (HC0.out.on b1 hlt0)
 have HB1 := hid (bthen HB0.out b1 (Nat.le_refl _))
 have hlt1 : w.heap.size < w1.heap.size := Nat.lt_of_lt_of_le hlt0 b1.size
 clear b1 hlt0
 go_wp2_with fail
 refine (law9Awake_any _ HL1.out).mono ?_
 rintro e w2 ⟨rfl, b2⟩
 have HL2 := hid (HL1.out.on b2)
 have HC2 := hid (HC1.out.on b2 hlt1)
 have HB2 := hid (bthen HB1.out b2 (Nat.le_refl _))
 have hlt2 : w.heap.size < w2.heap.size := Nat.lt_of_lt_of_le hlt1 b2.size
 clear b2 hlt1
 have c0 := HC2.out 0 _ rfl
 have c1 := HC2.out 1 _ rfl
 have c2 := HC2.out 2 _ rfl
 have c3 := HC2.out 3 _ rfl
 go_wp2_with fail
 refine (ex_check _ HL2.out).mono ?_
 rintro e w3 ⟨rfl, b3⟩
 have HL3 := hid (HL2.out.on b3)
 have HC3 := hid (HC2.out.on b3 hlt2)
 have HB3 := hid (bthen HB2.out b3 (Nat.le_refl _))
 have hlt3 : w.heap.size < w3.heap.size := Nat.lt_of_lt_of_le hlt2 b3.size
 clear b3 hlt2 c0 c1 c2 c3
 have c0 := HC3.out 0 _ rfl
 have c1 := HC3.out 1 _ rfl
 have c2 := HC3.out 2 _ rfl
 have c3 := HC3.out 3 _ rfl
 go_wp2_with fail
 refine (ex_yes _ HL3.out).mono ?_
 rintro e w4 ⟨rfl, b4⟩
 have HL4 := hid (HL3.out.on b4)
 have HC4 := hid (HC3.out.on b4 hlt3)
 have HB4 := hid (bthen HB3.out b4 (Nat.le_refl _))
 have hlt4 : w.heap.size < w4.heap.size := Nat.lt_of_lt_of_le hlt3 b4.size
 clear b4 hlt3 c0 c1 c2 c3
 have c0 := HC4.out 0 _ rfl
 have c1 := HC4.out 1 _ rfl
 have c2 := HC4.out 2 _ rfl
 have c3 := HC4.out 3 _ rfl
 go_wp2_with fail
 refine (ex_no _ HL4.out).mono ?_
 rintro e w5 ⟨rfl, b5⟩
 have HB5 := hid (bthen HB4.out b5 (Nat.le_refl _))
 clear b5
 go_wp2_with fail
 go_ret
 exact ⟨rfl, HB5.out⟩
theorem cell_on {a a' : World} (hb : Below a.heap.size a a') {p : Addr} {v : Value} (h : a.cell? p = some v) : a'.cell? p = some v := (hb.cell (World.block_lt_of_cell? a _ h)).trans h
theorem below_put {B b j : Nat} {w w' : World} {v : Value} (hge : B ≤ b) (h : Below B w w') : Below B w (w'.setCell ⟨b, j, none⟩ v) := h.setCell (p := ⟨b, j, none⟩) hge v
end Go.Proofs.YtaikigponkjkgaaGreatDoor
end
