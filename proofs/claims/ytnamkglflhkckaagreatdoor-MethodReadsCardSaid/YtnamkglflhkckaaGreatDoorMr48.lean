/-
  WHICH MESSAGES GO BY A RULE: walked, the program's and the document's; rules held against each other. THE CHAPTER'S EXAMPLE, walked. THE CHAPTER's EXAMPLE; two heads held against each other: THE LAW HeadSame, walked. RULES HELD AGAINST EACH OTHER; the chapter's example: walked. slices.Clone OF PAIRS; THE RULE that is in a method: walked.
-/
import Derived.Test.YtnamkglflhkckaaGreatDoorMr06
import Derived.Test.YtnamkglflhkckaaGreatDoorMr07
import Derived.Test.YtnamkglflhkckaaGreatDoorMr12
import Derived.Test.YtnamkglflhkckaaGreatDoorMr47
import Derived.Deep.RegionHeld3
import Derived.Deep.DeepCutAuto
section
namespace Go.Proofs.YtnamkglflhkckaaGreatDoor
open Go.ChangeShapes Go.WideShapes Go.ChangeAt Go.RowKit
/-- does a message go? -/
def goesB (r : Ru) (key : List UInt8) (h : List Hd.Pr) : Bool :=
  if r.sort = 0 then r.key == key else if r.sort = 1 then true else if r.sort = 2 then Wrd.matches' (Wrd.words r.key) (Wrd.words key) else
  if r.all then r.want.all (hasP h) else r.want.any (hasP h)
theorem goes_0 {r : Ru} (h0 : r.sort = 0) (key : List UInt8) (h : List Hd.Pr) : goesB r key h = (r.key == key) := by unfold goesB; rw [if_pos h0]
theorem goes_1 {r : Ru} (h0 : r.sort = 1) (key : List UInt8) (h : List Hd.Pr) : goesB r key h = true := by unfold goesB; rw [if_neg (by omega), if_pos h0]
theorem goes_2 {r : Ru} (h0 : r.sort = 2) (key : List UInt8) (h : List Hd.Pr) : goesB r key h = Wrd.matches' (Wrd.words r.key) (Wrd.words key) := by unfold goesB; rw [if_neg (by omega), if_neg (by omega), if_pos h0]
theorem goes_3 {r : Ru} (h0 : r.sort = 3) (key : List UInt8) (h : List Hd.Pr) : goesB r key h = if r.all then r.want.all (hasP h) else r.want.any (hasP h) := by unfold goesB; rw [if_neg (by omega), if_neg (by omega), if_neg (by omega)]
set_option maxRecDepth 100000 in
set_option maxHeartbeats 8000000 in
theorem mGoes_any (r : Ru) (A : Option Addr) (c : Nat) (key : List UInt8) (h : List Hd.Pr) (B : Option Addr) (d : Nat) (w : World) (hr : RuOk w r A c) (hs : r.sort ≤ 3) (hk : key.length ≤ 90000) (hh : h.length ≤ 100000) (hp : Prs w B h) (hL : Len w) :
    Calls Tryz.prog 161 #[ruV r A c, .string (ofL key), .slice B h.length d] w fun e w' => e = .returned (.bool (goesB r key h)) ∧ Below w.heap.size w w' := by
  have HB0 := Lib.hid (show Below w.heap.size w (w.alloc (.cells #[.int .u8 (r.sort : Int), .string (ofL r.key), .slice A r.want.length c, .bool r.all] 215)) from (Below.refl _ _).alloc (Nat.le_refl _) _)
  have HX0 := Lib.hid (ruBox r A c w 215)
  have HL0 := Lib.hid (hL.on HB0.out)
  have HR0 := Lib.hid (hr.on HB0.out)
  have HP0 := Lib.hid (hp.on HB0.out)
  have hrk := hr.key
  have hrw := hr.len
  clear hr hp hL
  simp only [ruV]
  obtain h0 | h0 | h0 | h0 : r.sort = 0 ∨ r.sort = 1 ∨ r.sort = 2 ∨ r.sort = 3 := by omega
  · have HC := Lib.hid (goes_0 h0 key h)
    have hq := str_same key r.key
    rw [show (key == r.key) = (r.key == key) from Bool.beq_comm] at hq
    generalize (r.key == key) = M at *
    rw [h0]
    go_enter Tryz.func161, Tryz.ntmps161
    go_wp2_with fail
    go_ret
    exact ⟨ret_bool HC.out.symm, by have := HB0.out; rw [h0] at this; exact this⟩
  · have HC := Lib.hid (goes_1 h0 key h)
    rw [h0]
    go_enter Tryz.func161, Tryz.ntmps161
    go_wp2_with fail
    go_ret
    exact ⟨ret_bool HC.out.symm, by have := HB0.out; rw [h0] at this; exact this⟩
  · have HC := Lib.hid (goes_2 h0 key h)
    have HM := Lib.hid (fun W hL => matches_any r.key key W (by omega) (by omega) hL)
    generalize Wrd.matches' (Wrd.words r.key) (Wrd.words key) = M at *
    rw [h0] at HB0 HL0 ⊢
    go_enter Tryz.func161, Tryz.ntmps161
    go_wp2_with fail
    refine (HM.out _ HL0.out).mono ?_
    rintro e w1 ⟨rfl, b1⟩
    have HB1 := Lib.hid (bthen HB0.out b1 (Nat.le_refl _))
    clear b1
    go_wp2_with fail
    go_ret
    exact ⟨ret_bool HC.out.symm, HB1.out⟩
  · have HC := Lib.hid (goes_3 h0 key h)
    cases hall : r.all with
    | true =>
      rw [hall, if_pos rfl] at HC
      have HE := Lib.hid (fun W h1 h2 => hasEach_any h r.want B d A c W hh hrw h1 h2)
      generalize r.want.all (hasP h) = M at *
      rw [h0, hall] at HB0 HP0 HR0 HX0
      rw [h0]
      cases M with
      | true =>
        go_enter Tryz.func161, Tryz.ntmps161
        go_wp2_with fail
        refine (HE.out _ HP0.out HR0.out.row).mono ?_
        rintro e w1 ⟨rfl, b1⟩
        have HB1 := Lib.hid (bthen HB0.out b1 (Nat.le_refl _))
        clear b1
        go_wp2_with fail
        go_ret
        exact ⟨ret_bool HC.out.symm, HB1.out⟩
      | false =>
        go_enter Tryz.func161, Tryz.ntmps161
        go_wp2_with fail
        refine (HE.out _ HP0.out HR0.out.row).mono ?_
        rintro e w1 ⟨rfl, b1⟩
        have HB1 := Lib.hid (bthen HB0.out b1 (Nat.le_refl _))
        have hX1 := (HX0.out.on b1 (by simp))
        have hlt1 : w.heap.size < w1.heap.size := by have := b1.size; simp at this; omega
        have c3 := hX1 3 _ rfl
        rw [hall] at c3
        clear b1 hX1
        go_wp2_with fail
        go_ret
        exact ⟨ret_bool HC.out.symm, HB1.out⟩
    | false =>
      rw [hall, if_neg (by simp)] at HC
      have HO := Lib.hid (fun W h1 h2 => hasOne_any h r.want B d A c W hh hrw h1 h2)
      generalize r.want.any (hasP h) = M at *
      rw [h0, hall] at HB0 HP0 HR0
      rw [h0]
      go_enter Tryz.func161, Tryz.ntmps161
      go_wp2_with fail
      refine (HO.out _ HP0.out HR0.out.row).mono ?_
      rintro e w1 ⟨rfl, b1⟩
      have HB1 := Lib.hid (bthen HB0.out b1 (Nat.le_refl _))
      clear b1
      go_wp2_with fail
      go_ret
      exact ⟨ret_bool HC.out.symm, HB1.out⟩
end Go.Proofs.YtnamkglflhkckaaGreatDoor
end
section
namespace Go.Proofs.YtnamkglflhkckaaGreatDoor
open Go.ChangeShapes Go.WideShapes Go.ChangeAt Go.RowKit
def exP : List UInt8 := [97, 46, 42, 46, 35]
def exA : List UInt8 := [97, 46, 98]
def exB : List UInt8 := [97, 46, 98, 46, 99, 46, 100]
def exC : List UInt8 := [97]
def exN : List UInt8 := [97, 45, 49]
theorem ex_a : Wrd.matches' (Wrd.words exP) (Wrd.words exA) = true := by rw [← Wrd.row_all]; decide
theorem ex_b : Wrd.matches' (Wrd.words exP) (Wrd.words exB) = true := by rw [← Wrd.row_all]; decide
theorem ex_c : Wrd.matches' (Wrd.words exP) (Wrd.words exC) = false := by rw [← Wrd.row_all]; decide
theorem ex_n : Wrd.nameCode exN = 0 := by decide
theorem ex_a_at (w : World) (hL : Len w) : Calls Tryz.prog 185 #[.string ⟨#[97, 46, 42, 46, 35]⟩, .string ⟨#[97, 46, 98]⟩] w fun e w' => e = .returned (.bool true) ∧ Below w.heap.size w w' := by
  have h := matches_any exP exA w (by decide) (by decide) hL
  rw [ex_a] at h
  exact h
theorem ex_b_at (w : World) (hL : Len w) : Calls Tryz.prog 185 #[.string ⟨#[97, 46, 42, 46, 35]⟩, .string ⟨#[97, 46, 98, 46, 99, 46, 100]⟩] w fun e w' => e = .returned (.bool true) ∧ Below w.heap.size w w' := by
  have h := matches_any exP exB w (by decide) (by decide) hL
  rw [ex_b] at h
  exact h
theorem ex_c_at (w : World) (hL : Len w) : Calls Tryz.prog 185 #[.string ⟨#[97, 46, 42, 46, 35]⟩, .string ⟨#[97]⟩] w fun e w' => e = .returned (.bool false) ∧ Below w.heap.size w w' := by
  have h := matches_any exP exC w (by decide) (by decide) hL
  rw [ex_c] at h
  exact h
theorem ex_n_at (w : World) : Calls Tryz.prog 121 #[.string ⟨#[97, 45, 49]⟩] w fun e w' => e = .returned (.int .i64 0) ∧ w = w' := by
  have h := name_any exN w (by decide)
  rw [ex_n] at h
  exact h
set_option maxHeartbeats 1000000 in
theorem wawake_any (w : World) (hL : Len w) : Calls Tryz.prog 149 #[] w fun e w' => e = .returned (.bool true) ∧ Below w.heap.size w w' := by
  have HA := Lib.hid (ex_a_at w hL)
  have HL := Lib.hid hL
  clear hL
  go_enter Tryz.func149, Tryz.ntmps149
  go_wp2_with fail
  refine HA.out.mono ?_
  rintro e w1 ⟨rfl, hB1⟩
  have HL1 := Lib.hid (HL.out.on hB1)
  have HB1 := Lib.hid hB1
  clear hB1
  go_wp2_with fail
  refine (ex_b_at _ HL1.out).mono ?_
  rintro e w2 ⟨rfl, hB⟩
  have HL2 := Lib.hid (HL1.out.on hB)
  have HB2 := Lib.hid (HB1.out.trans (hB.mono HB1.out.size))
  clear hB
  go_wp2_with fail
  refine (ex_c_at _ HL2.out).mono ?_
  rintro e w3 ⟨rfl, hB⟩
  have HB3 := Lib.hid (HB2.out.trans (hB.mono HB2.out.size))
  clear hB
  go_wp2_with fail
  refine (ex_n_at _).mono ?_
  rintro e w' ⟨rfl, rfl⟩
  go_wp2_with fail
  go_ret
  exact ⟨rfl, HB3.out⟩
end Go.Proofs.YtnamkglflhkckaaGreatDoor
end
section
namespace Go.Proofs.YtnamkglflhkckaaGreatDoor
open Go.ChangeShapes Go.WideShapes Go.ChangeAt Go.RowKit
theorem law4Awake_any (w : World) (hL : Len w) : Calls Tryz.prog 87 #[] w fun e w' => e = .returned (.bool true) ∧ Below w.heap.size w w' := by
  have HA := Lib.hid (wawake_any w hL)
  go_enter Tryz.func87, Tryz.ntmps87
  go_wp2_with fail
  refine HA.out.mono ?_
  rintro x w1 ⟨rfl, b1⟩
  have B1 := Lib.hid b1
  clear b1
  go_wp2_with fail
  go_ret
  exact ⟨rfl, B1.out⟩
theorem lite_nil : Lite [] := fun i hi => absurd hi (by simp)
theorem hbytes_nil (w : World) : Calls Tryz.prog 116 #[.slice none 0 0] w fun e w' => e = .returned (.tuple #[.string ⟨#[0]⟩, .int .i64 0]) ∧ Below w.heap.size w w' := by
  have h := hbytes_any [] none 0 w (by simp) (by simp) lite_nil (Prs.nil _ _)
  rw [show hbytesV [] = .tuple #[.string ⟨#[0]⟩, .int .i64 0] from rfl] at h
  exact h
set_option maxHeartbeats 1000000 in
theorem awake9_any (w : World) (hL : Len w) : Calls Tryz.prog 135 #[] w fun e w' => e = .returned (.bool true) ∧ Below w.heap.size w w' := by
  have HL := Lib.hid hL
  clear hL
  have he : (({ data := #[0] } : ByteArray).toList == [0]) = true := by rw [ByteArray.toList_eq]; rfl
  go_enter Tryz.func135, Tryz.ntmps135
  go_wp2_with fail
  refine (hbytes_nil _).mono ?_
  rintro e w1 ⟨rfl, b1⟩
  have HL1 := Lib.hid (HL.out.on b1)
  have HB1 := Lib.hid b1
  clear b1
  go_wp2_with fail
  refine (octAwake2_any _).mono ?_
  rintro e w2 ⟨rfl, b2⟩
  have HL2 := Lib.hid (HL1.out.on b2)
  have HB2 := Lib.hid (bthen HB1.out b2 (Nat.le_refl _))
  clear b2
  go_wp2_with fail
  refine (law4Awake_any _ HL2.out).mono ?_
  rintro e w3 ⟨rfl, b3⟩
  have HB3 := Lib.hid (bthen HB2.out b3 (Nat.le_refl _))
  clear b3
  go_wp2_with fail
  go_ret
  exact ⟨rfl, HB3.out⟩
end Go.Proofs.YtnamkglflhkckaaGreatDoor
end
section
namespace Go.Proofs.YtnamkglflhkckaaGreatDoor
open Go.ChangeShapes Go.WideShapes Go.ChangeAt Go.RowKit
def exR : Ru := ⟨2, [97, 46, 35], [], false⟩
theorem exR_code : ruCode exR = 0 := by decide
theorem exR_yes : goesB exR [97, 46, 98] [] = true := by rw [goes_2 rfl, ← Wrd.row_all]; decide
theorem exR_no : goesB exR [98] [] = false := by rw [goes_2 rfl, ← Wrd.row_all]; decide
theorem exR_ok (w : World) : RuOk w exR none 0 := ⟨by decide, by decide, by decide, lite_nil, Prs.nil _ _⟩
theorem ex_check (w : World) (hL : Len w) : Calls Tryz.prog 166 #[.agg #[.int .u8 2, .string ⟨#[97, 46, 35]⟩, .slice none 0 0, .bool false]] w fun e w' => e = .returned (.int .i64 0) ∧ Below w.heap.size w w' := by
  have h := mCheck_any exR none 0 w (exR_ok w) hL
  rw [exR_code] at h
  exact h
theorem ex_yes (w : World) (hL : Len w) : Calls Tryz.prog 161 #[.agg #[.int .u8 2, .string ⟨#[97, 46, 35]⟩, .slice none 0 0, .bool false], .string ⟨#[97, 46, 98]⟩, .slice none 0 0] w fun e w' => e = .returned (.bool true) ∧ Below w.heap.size w w' := by
  have h := mGoes_any exR none 0 [97, 46, 98] [] none 0 w (exR_ok w) (by decide) (by decide) (by decide) (Prs.nil _ _) hL
  rw [exR_yes] at h
  exact h
theorem ex_no (w : World) (hL : Len w) : Calls Tryz.prog 161 #[.agg #[.int .u8 2, .string ⟨#[97, 46, 35]⟩, .slice none 0 0, .bool false], .string ⟨#[98]⟩, .slice none 0 0] w fun e w' => e = .returned (.bool false) ∧ Below w.heap.size w w' := by
  have h := mGoes_any exR none 0 [98] [] none 0 w (exR_ok w) (by decide) (by decide) (by decide) (Prs.nil _ _) hL
  rw [exR_no] at h
  exact h
theorem law9Awake_any (w : World) (hL : Len w) : Calls Tryz.prog 72 #[] w fun e w' => e = .returned (.bool true) ∧ Below w.heap.size w w' := by
  have HA := Lib.hid (awake9_any w hL)
  go_enter Tryz.func72, Tryz.ntmps72
  go_wp2_with fail
  refine HA.out.mono ?_
  rintro x w1 ⟨rfl, b1⟩
  have B1 := Lib.hid b1
  clear b1
  go_wp2_with fail
  go_ret
  exact ⟨rfl, B1.out⟩
set_option maxHeartbeats 2000000 in
theorem awake10_any (w : World) (hL : Len w) : Calls Tryz.prog 114 #[] w fun e w' => e = .returned (.bool true) ∧ Below w.heap.size w w' := by
  have HB0 := Lib.hid (show Below w.heap.size w (w.alloc (.cells #[.int .u8 2, .string ⟨#[97, 46, 35]⟩, .slice none 0 0, .bool false] 215)) from (Below.refl _ _).alloc (Nat.le_refl _) _)
  have HC0 := Lib.hid (Cels.new w #[.int .u8 2, .string ⟨#[97, 46, 35]⟩, .slice none 0 0, .bool false] 215)
  have HL0 := Lib.hid (hL.on HB0.out)
  clear hL
  go_enter Tryz.func114, Tryz.ntmps114
  go_wp2_with fail
  generalize w.alloc (.cells #[.int .u8 2, .string ⟨#[97, 46, 35]⟩, .slice none 0 0, .bool false] 215) = w0 at *
  have hlt0 : w.heap.size < w0.heap.size := World.block_lt_of_cell? w0 _ (HC0.out 0 _ rfl)
  refine (law4Awake_any _ HL0.out).mono ?_
  rintro e w1 ⟨rfl, b1⟩
  have HL1 := Lib.hid (HL0.out.on b1)
  have HC1 := Lib.hid (HC0.out.on b1 hlt0)
  have HB1 := Lib.hid (bthen HB0.out b1 (Nat.le_refl _))
  have hlt1 : w.heap.size < w1.heap.size := Nat.lt_of_lt_of_le hlt0 b1.size
  clear b1 hlt0
  go_wp2_with fail
  refine (law9Awake_any _ HL1.out).mono ?_
  rintro e w2 ⟨rfl, b2⟩
  have HL2 := Lib.hid (HL1.out.on b2)
  have HC2 := Lib.hid (HC1.out.on b2 hlt1)
  have HB2 := Lib.hid (bthen HB1.out b2 (Nat.le_refl _))
  have hlt2 : w.heap.size < w2.heap.size := Nat.lt_of_lt_of_le hlt1 b2.size
  clear b2 hlt1
  have c0 := HC2.out 0 _ rfl
  have c1 := HC2.out 1 _ rfl
  have c2 := HC2.out 2 _ rfl
  have c3 := HC2.out 3 _ rfl
  go_wp2_with fail
  refine (ex_check _ HL2.out).mono ?_
  rintro e w3 ⟨rfl, b3⟩
  have HL3 := Lib.hid (HL2.out.on b3)
  have HC3 := Lib.hid (HC2.out.on b3 hlt2)
  have HB3 := Lib.hid (bthen HB2.out b3 (Nat.le_refl _))
  have hlt3 : w.heap.size < w3.heap.size := Nat.lt_of_lt_of_le hlt2 b3.size
  clear b3 hlt2 c0 c1 c2 c3
  have c0 := HC3.out 0 _ rfl
  have c1 := HC3.out 1 _ rfl
  have c2 := HC3.out 2 _ rfl
  have c3 := HC3.out 3 _ rfl
  go_wp2_with fail
  refine (ex_yes _ HL3.out).mono ?_
  rintro e w4 ⟨rfl, b4⟩
  have HL4 := Lib.hid (HL3.out.on b4)
  have HC4 := Lib.hid (HC3.out.on b4 hlt3)
  have HB4 := Lib.hid (bthen HB3.out b4 (Nat.le_refl _))
  have hlt4 : w.heap.size < w4.heap.size := Nat.lt_of_lt_of_le hlt3 b4.size
  clear b4 hlt3 c0 c1 c2 c3
  have c0 := HC4.out 0 _ rfl
  have c1 := HC4.out 1 _ rfl
  have c2 := HC4.out 2 _ rfl
  have c3 := HC4.out 3 _ rfl
  go_wp2_with fail
  refine (ex_no _ HL4.out).mono ?_
  rintro e w5 ⟨rfl, b5⟩
  have HB5 := Lib.hid (bthen HB4.out b5 (Nat.le_refl _))
  clear b5
  go_wp2_with fail
  go_ret
  exact ⟨rfl, HB5.out⟩
end Go.Proofs.YtnamkglflhkckaaGreatDoor
end
section
namespace Go.Proofs.YtnamkglflhkckaaGreatDoor
open Go.ChangeShapes Go.WideShapes Go.ChangeAt Go.RowKit
/-- the rule that is in a method -/
def Me.rule (x : Me) (s : Nat) : Ru := ⟨s, x.key, x.head, x.yes⟩
structure MeRu (w : World) (x : Me) (A : Option Addr) (c : Nat) (ys : List Value) (W : World) : Prop where
  p : BoxC w w.heap.size (meL x A c) W
  q : BoxC w (w.heap.size + 1) ys W
  B : Below w.heap.size w W
theorem MeRu.on {w : World} {x : Me} {A : Option Addr} {c : Nat} {ys : List Value} {W W' : World} (h : MeRu w x A c ys W) (hb : Below W.heap.size W W') : MeRu w x A c ys W' := ⟨h.p.on hb, h.q.on hb, bthen h.B hb (Nat.le_refl _)⟩
theorem MeRu.start (w : World) (x : Me) (A : Option Addr) (c : Nat) : MeRu w x A c [.int .u8 0, .string ⟨#[]⟩, .slice none 0 0, .bool false] ((w.alloc (.cells #[.int .u8 (x.ch.toNat : Int), .int .u8 (x.kd.toNat : Int), .string (ofL x.name), .string (ofL x.other), .string (ofL x.key), .slice A x.head.length c, .string (ofL x.body), .int .u64 (x.n : Int), .int .u64 (x.m : Int), .bool x.yes] 25)).alloc (.cells #[.int .u8 0, .string ⟨#[]⟩, .slice none 0 0, .bool false] 215)) := by
  have h1 : BoxC w w.heap.size (meL x A c) (w.alloc (.cells #[.int .u8 (x.ch.toNat : Int), .int .u8 (x.kd.toNat : Int), .string (ofL x.name), .string (ofL x.other), .string (ofL x.key), .slice A x.head.length c, .string (ofL x.body), .int .u64 (x.n : Int), .int .u64 (x.m : Int), .bool x.yes] 25)) := BoxC.new (Nat.le_refl _) #[.int .u8 (x.ch.toNat : Int), .int .u8 (x.kd.toNat : Int), .string (ofL x.name), .string (ofL x.other), .string (ofL x.key), .slice A x.head.length c, .string (ofL x.body), .int .u64 (x.n : Int), .int .u64 (x.m : Int), .bool x.yes] 25
  have h2 : BoxC w (w.heap.size + 1) [.int .u8 0, .string ⟨#[]⟩, .slice none 0 0, .bool false] ((w.alloc (.cells #[.int .u8 (x.ch.toNat : Int), .int .u8 (x.kd.toNat : Int), .string (ofL x.name), .string (ofL x.other), .string (ofL x.key), .slice A x.head.length c, .string (ofL x.body), .int .u64 (x.n : Int), .int .u64 (x.m : Int), .bool x.yes] 25)).alloc (.cells #[.int .u8 0, .string ⟨#[]⟩, .slice none 0 0, .bool false] 215)) := by
    have := BoxC.new (w := w) (W := (w.alloc (.cells #[.int .u8 (x.ch.toNat : Int), .int .u8 (x.kd.toNat : Int), .string (ofL x.name), .string (ofL x.other), .string (ofL x.key), .slice A x.head.length c, .string (ofL x.body), .int .u64 (x.n : Int), .int .u64 (x.m : Int), .bool x.yes] 25))) (by simp) #[.int .u8 0, .string ⟨#[]⟩, .slice none 0 0, .bool false] 215
    simpa using this
  exact ⟨h1.on ((Below.refl _ _).alloc (Nat.le_refl _) _), h2, ((Below.refl _ _).alloc (Nat.le_refl _) _).alloc (by simp) _⟩
abbrev MeRuS (w : World) (x : Me) (A : Option Addr) (c : Nat) (W : World) : Prop :=
  ((W.cell? ⟨w.heap.size, 4, none⟩ = some (.string (ofL x.key)) ∧ W.cell? ⟨w.heap.size, 5, none⟩ = some (.slice A x.head.length c) ∧ W.cell? ⟨w.heap.size, 9, none⟩ = some (.bool x.yes)) ∧ w.heap.size < W.heap.size) ∧ ∃ ys, MeRu w x A c ys W
theorem MeRu.s {w : World} {x : Me} {A : Option Addr} {c : Nat} {ys : List Value} {W : World} (h : MeRu w x A c ys W) : MeRuS w x A c W := ⟨⟨⟨h.p.cs 4 _ rfl, h.p.cs 5 _ rfl, h.p.cs 9 _ rfl⟩, h.p.lt⟩, ys, h⟩
theorem MeRu.done {w : World} {x : Me} {A : Option Addr} {c : Nat} {W : World} {a0 a1 a2 a3 : Value} (h : MeRu w x A c [a0, a1, a2, a3] W) (v0 v1 v2 v3 : Value) : MeRu w x A c [v0, v1, v2, v3] ((((W.setCell ⟨w.heap.size + 1, 0, none⟩ v0).setCell ⟨w.heap.size + 1, 1, none⟩ v1).setCell ⟨w.heap.size + 1, 2, none⟩ v2).setCell ⟨w.heap.size + 1, 3, none⟩ v3) :=
  ⟨(((h.p.aside (by omega) 0 _).aside (by omega) 1 _).aside (by omega) 2 _).aside (by omega) 3 _, (((h.q.put 0 _ (by simp)).put 1 _ (by simp)).put 2 _ (by simp)).put 3 _ (by simp), (((h.B.setCell h.q.ge _).setCell h.q.ge _).setCell h.q.ge _).setCell h.q.ge _⟩
end Go.Proofs.YtnamkglflhkckaaGreatDoor
end
