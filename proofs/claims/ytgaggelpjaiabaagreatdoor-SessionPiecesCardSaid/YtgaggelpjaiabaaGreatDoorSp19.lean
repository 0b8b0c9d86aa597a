/-
  WHETHER A METHOD MAY BE: walked.
-/
import Derived.Test.YtgaggelpjaiabaaGreatDoorSp06
import Derived.Test.YtgaggelpjaiabaaGreatDoorSp07
import Derived.Test.YtgaggelpjaiabaaGreatDoorSp10

section
namespace Go.Proofs.YtgaggelpjaiabaaGreatDoor
open Go.ChangeShapes Go.WideShapes Go.ChangeAt Go.RowKit
def meV (x : Me) (A : Option Addr) (c : Nat) : Value := .agg #[.int .u8 (x.ch.toNat : Int), .int .u8 (x.kd.toNat : Int), .string (ofL x.name), .string (ofL x.other), .string (ofL x.key), .slice A x.head.length c, .string (ofL x.body), .int .u64 (x.n : Int), .int .u64 (x.m : Int), .bool x.yes]
def meL (x : Me) (A : Option Addr) (c : Nat) : List Value := [.int .u8 (x.ch.toNat : Int), .int .u8 (x.kd.toNat : Int), .string (ofL x.name), .string (ofL x.other), .string (ofL x.key), .slice A x.head.length c, .string (ofL x.body), .int .u64 (x.n : Int), .int .u64 (x.m : Int), .bool x.yes]
/-- its numbers are such that it can be walked -/
structure MeOk (w : World) (x : Me) (A : Option Addr) (c : Nat) : Prop where
  name : x.name.length ≤ 90000
  other : x.other.length ≤ 90000
  key : x.key.length ≤ 90000
  body : x.body.length ≤ 90000
  len : x.head.length ≤ 100000
  cap : x.head.length ≤ c
  lite : Lite x.head
  row : Prs w A x.head
theorem MeOk.on {w w' : World} {x : Me} {A : Option Addr} {c : Nat} (h : MeOk w x A c) (hb : Below w.heap.size w w') : MeOk w' x A c := ⟨h.name, h.other, h.key, h.body, h.len, h.cap, h.lite, h.row.on hb⟩
theorem meBox (x : Me) (A : Option Addr) (c : Nat) (w : World) (t : TypeId) : Cels (w.alloc (.cells #[.int .u8 (x.ch.toNat : Int), .int .u8 (x.kd.toNat : Int), .string (ofL x.name), .string (ofL x.other), .string (ofL x.key), .slice A x.head.length c, .string (ofL x.body), .int .u64 (x.n : Int), .int .u64 (x.m : Int), .bool x.yes] t)) w.heap.size (meL x A c) := Cels.new w _ t
theorem me_lacks_0 (x : Me) (A : Option Addr) (c : Nat) (w : World) : Calls Tryz.prog 99 #[meV x A c, .int .i64 0] w fun e w' => e = .returned (.bool (x.lacks 0)) ∧ Below w.heap.size w w' := by
  have HB0 := Lib.hid (show Below w.heap.size w (w.alloc (.cells #[.int .u8 (x.ch.toNat : Int), .int .u8 (x.kd.toNat : Int), .string (ofL x.name), .string (ofL x.other), .string (ofL x.key), .slice A x.head.length c, .string (ofL x.body), .int .u64 (x.n : Int), .int .u64 (x.m : Int), .bool x.yes] 25)) from (Below.refl _ _).alloc (Nat.le_refl _) _)
  have HC := Lib.hid (show x.lacks 0 = ((x.name == [])) from rfl)
  have hq : ((ofL x.name).toList == []) = (x.name == []) := by rw [str_list]
  simp only [meV]
  go_enter Tryz.func99, Tryz.ntmps99
  go_wp2_with fail
  go_ret
  exact ⟨ret_bool (by rw [HC.out, emp_eq]), HB0.out⟩
theorem me_lacks_1 (x : Me) (A : Option Addr) (c : Nat) (w : World) : Calls Tryz.prog 99 #[meV x A c, .int .i64 1] w fun e w' => e = .returned (.bool (x.lacks 1)) ∧ Below w.heap.size w w' := by
  have HB0 := Lib.hid (show Below w.heap.size w (w.alloc (.cells #[.int .u8 (x.ch.toNat : Int), .int .u8 (x.kd.toNat : Int), .string (ofL x.name), .string (ofL x.other), .string (ofL x.key), .slice A x.head.length c, .string (ofL x.body), .int .u64 (x.n : Int), .int .u64 (x.m : Int), .bool x.yes] 25)) from (Below.refl _ _).alloc (Nat.le_refl _) _)
  have HC := Lib.hid (show x.lacks 1 = ((x.other == [])) from rfl)
  have hq : ((ofL x.other).toList == []) = (x.other == []) := by rw [str_list]
  simp only [meV]
  go_enter Tryz.func99, Tryz.ntmps99
  go_wp2_with fail
  go_ret
  exact ⟨ret_bool (by rw [HC.out, emp_eq]), HB0.out⟩
theorem me_lacks_2 (x : Me) (A : Option Addr) (c : Nat) (w : World) : Calls Tryz.prog 99 #[meV x A c, .int .i64 2] w fun e w' => e = .returned (.bool (x.lacks 2)) ∧ Below w.heap.size w w' := by
  have HB0 := Lib.hid (show Below w.heap.size w (w.alloc (.cells #[.int .u8 (x.ch.toNat : Int), .int .u8 (x.kd.toNat : Int), .string (ofL x.name), .string (ofL x.other), .string (ofL x.key), .slice A x.head.length c, .string (ofL x.body), .int .u64 (x.n : Int), .int .u64 (x.m : Int), .bool x.yes] 25)) from (Below.refl _ _).alloc (Nat.le_refl _) _)
  have HC := Lib.hid (show x.lacks 2 = ((x.key == [])) from rfl)
  have hq : ((ofL x.key).toList == []) = (x.key == []) := by rw [str_list]
  simp only [meV]
  go_enter Tryz.func99, Tryz.ntmps99
  go_wp2_with fail
  go_ret
  exact ⟨ret_bool (by rw [HC.out, emp_eq]), HB0.out⟩
theorem me_lacks_3 (x : Me) (A : Option Addr) (c : Nat) (w : World) : Calls Tryz.prog 99 #[meV x A c, .int .i64 3] w fun e w' => e = .returned (.bool (x.lacks 3)) ∧ Below w.heap.size w w' := by
  have HB0 := Lib.hid (show Below w.heap.size w (w.alloc (.cells #[.int .u8 (x.ch.toNat : Int), .int .u8 (x.kd.toNat : Int), .string (ofL x.name), .string (ofL x.other), .string (ofL x.key), .slice A x.head.length c, .string (ofL x.body), .int .u64 (x.n : Int), .int .u64 (x.m : Int), .bool x.yes] 25)) from (Below.refl _ _).alloc (Nat.le_refl _) _)
  have HC := Lib.hid (show x.lacks 3 = ((x.head.length == 0)) from rfl)
  have hq : ((x.head.length : Int) == 0) = (x.head.length == 0) := cast_beq x.head.length 0
  simp only [meV]
  go_enter Tryz.func99, Tryz.ntmps99
  go_wp2_with fail
  go_ret
  exact ⟨ret_bool (by rw [HC.out]), HB0.out⟩
theorem me_lacks_4 (x : Me) (A : Option Addr) (c : Nat) (w : World) : Calls Tryz.prog 99 #[meV x A c, .int .i64 4] w fun e w' => e = .returned (.bool (x.lacks 4)) ∧ Below w.heap.size w w' := by
  have HB0 := Lib.hid (show Below w.heap.size w (w.alloc (.cells #[.int .u8 (x.ch.toNat : Int), .int .u8 (x.kd.toNat : Int), .string (ofL x.name), .string (ofL x.other), .string (ofL x.key), .slice A x.head.length c, .string (ofL x.body), .int .u64 (x.n : Int), .int .u64 (x.m : Int), .bool x.yes] 25)) from (Below.refl _ _).alloc (Nat.le_refl _) _)
  have HC := Lib.hid (show x.lacks 4 = ((x.body == [])) from rfl)
  have hq : ((ofL x.body).toList == []) = (x.body == []) := by rw [str_list]
  simp only [meV]
  go_enter Tryz.func99, Tryz.ntmps99
  go_wp2_with fail
  go_ret
  exact ⟨ret_bool (by rw [HC.out, emp_eq]), HB0.out⟩
theorem me_lacks_5 (x : Me) (A : Option Addr) (c : Nat) (w : World) : Calls Tryz.prog 99 #[meV x A c, .int .i64 5] w fun e w' => e = .returned (.bool (x.lacks 5)) ∧ Below w.heap.size w w' := by
  have HB0 := Lib.hid (show Below w.heap.size w (w.alloc (.cells #[.int .u8 (x.ch.toNat : Int), .int .u8 (x.kd.toNat : Int), .string (ofL x.name), .string (ofL x.other), .string (ofL x.key), .slice A x.head.length c, .string (ofL x.body), .int .u64 (x.n : Int), .int .u64 (x.m : Int), .bool x.yes] 25)) from (Below.refl _ _).alloc (Nat.le_refl _) _)
  have HC := Lib.hid (show x.lacks 5 = ((x.n == 0)) from rfl)
  have hq : ((x.n : Int) == 0) = (x.n == 0) := cast_beq x.n 0
  simp only [meV]
  go_enter Tryz.func99, Tryz.ntmps99
  go_wp2_with fail
  go_ret
  exact ⟨ret_bool (by rw [HC.out]), HB0.out⟩
theorem me_lacks_6 (x : Me) (A : Option Addr) (c : Nat) (w : World) : Calls Tryz.prog 99 #[meV x A c, .int .i64 6] w fun e w' => e = .returned (.bool (x.lacks 6)) ∧ Below w.heap.size w w' := by
  have HB0 := Lib.hid (show Below w.heap.size w (w.alloc (.cells #[.int .u8 (x.ch.toNat : Int), .int .u8 (x.kd.toNat : Int), .string (ofL x.name), .string (ofL x.other), .string (ofL x.key), .slice A x.head.length c, .string (ofL x.body), .int .u64 (x.n : Int), .int .u64 (x.m : Int), .bool x.yes] 25)) from (Below.refl _ _).alloc (Nat.le_refl _) _)
  have HC := Lib.hid (show x.lacks 6 = ((x.m == 0)) from rfl)
  have hq : ((x.m : Int) == 0) = (x.m == 0) := cast_beq x.m 0
  simp only [meV]
  go_enter Tryz.func99, Tryz.ntmps99
  go_wp2_with fail
  go_ret
  exact ⟨ret_bool (by rw [HC.out]), HB0.out⟩
theorem me_lacks_7 (x : Me) (A : Option Addr) (c : Nat) (w : World) : Calls Tryz.prog 99 #[meV x A c, .int .i64 7] w fun e w' => e = .returned (.bool (x.lacks 7)) ∧ Below w.heap.size w w' := by
  have HB0 := Lib.hid (show Below w.heap.size w (w.alloc (.cells #[.int .u8 (x.ch.toNat : Int), .int .u8 (x.kd.toNat : Int), .string (ofL x.name), .string (ofL x.other), .string (ofL x.key), .slice A x.head.length c, .string (ofL x.body), .int .u64 (x.n : Int), .int .u64 (x.m : Int), .bool x.yes] 25)) from (Below.refl _ _).alloc (Nat.le_refl _) _)
  have HC := Lib.hid (show x.lacks 7 = (!x.yes) from rfl)
  have hq : True := trivial
  simp only [meV]
  go_enter Tryz.func99, Tryz.ntmps99
  go_wp2_with fail
  go_ret
  exact ⟨ret_bool (by rw [HC.out]), HB0.out⟩
theorem me_lacks_any (x : Me) (A : Option Addr) (c p : Nat) (hp : p < 8) (w : World) : Calls Tryz.prog 99 #[meV x A c, .int .i64 (p : Int)] w fun e w' => e = .returned (.bool (x.lacks p)) ∧ Below w.heap.size w w' := by
  obtain rfl | rfl | rfl | rfl | rfl | rfl | rfl | rfl : p = 0 ∨ p = 1 ∨ p = 2 ∨ p = 3 ∨ p = 4 ∨ p = 5 ∨ p = 6 ∨ p = 7 := by omega
  · exact me_lacks_0 x A c w
  · exact me_lacks_1 x A c w
  · exact me_lacks_2 x A c w
  · exact me_lacks_3 x A c w
  · exact me_lacks_4 x A c w
  · exact me_lacks_5 x A c w
  · exact me_lacks_6 x A c w
  · exact me_lacks_7 x A c w
theorem ocode_0 {x : Me} (h : x.other = [] ∧ (x.kd.toNat = 3 ∨ x.kd.toNat = 5)) : x.ocode = 0 := by unfold Me.ocode; rw [if_pos h]
theorem ocode_1 {x : Me} (h : ¬ (x.other = [] ∧ (x.kd.toNat = 3 ∨ x.kd.toNat = 5))) : x.ocode = Wrd.nameCode x.other := by unfold Me.ocode; rw [if_neg h]
set_option maxHeartbeats 1000000 in
theorem me_other_any (x : Me) (A : Option Addr) (c : Nat) (w : World) (ho : x.other.length ≤ 90000) : Calls Tryz.prog 131 #[meV x A c] w fun e w' => e = .returned (.int .i64 (x.ocode : Int)) ∧ Below w.heap.size w w' := by
  have HB0 := Lib.hid (show Below w.heap.size w (w.alloc (.cells #[.int .u8 (x.ch.toNat : Int), .int .u8 (x.kd.toNat : Int), .string (ofL x.name), .string (ofL x.other), .string (ofL x.key), .slice A x.head.length c, .string (ofL x.body), .int .u64 (x.n : Int), .int .u64 (x.m : Int), .bool x.yes] 25)) from (Below.refl _ _).alloc (Nat.le_refl _) _)
  have hN := Lib.hid (fun W => name_any x.other W (by omega))
  have HO0 := Lib.hid (fun h => ocode_0 (x := x) h)
  have HO1 := Lib.hid (fun h => ocode_1 (x := x) h)
  generalize x.ocode = C at *
  have hq : ((ofL x.other).toList == []) = (x.other == []) := by rw [str_list]
  simp only [meV]
  clear ho
  by_cases h0 : x.other = []
  · have hq1 : ((ofL x.other).toList == []) = true := by rw [hq, h0]; rfl
    clear hq
    by_cases h3 : x.kd.toNat = 3
    · have HC := Lib.hid (HO0.out ⟨h0, Or.inl h3⟩)
      have hz : ((x.kd.toNat : Int) == 3) = true := by rw [h3]; rfl
      clear h0 h3
      go_enter Tryz.func131, Tryz.ntmps131
      go_wp2_with fail
      go_ret
      exact ⟨ret_nat (by rw [HC.out]; rfl), HB0.out⟩
    · have hz : ((x.kd.toNat : Int) == 3) = false := beq_eq_false_iff_ne.2 (by omega)
      by_cases h5 : x.kd.toNat = 5
      · have HC := Lib.hid (HO0.out ⟨h0, Or.inr h5⟩)
        have hz5 : ((x.kd.toNat : Int) == 5) = true := by rw [h5]; rfl
        clear h0 h3 h5
        go_enter Tryz.func131, Tryz.ntmps131
        go_wp2_with fail
        go_ret
        exact ⟨ret_nat (by rw [HC.out]; rfl), HB0.out⟩
      · have HC := Lib.hid (HO1.out (by rintro ⟨-, h | h⟩ <;> omega))
        have hz5 : ((x.kd.toNat : Int) == 5) = false := beq_eq_false_iff_ne.2 (by omega)
        clear h0 h3 h5
        go_enter Tryz.func131, Tryz.ntmps131
        go_wp2_with fail
        refine (hN.out _).mono ?_
        rintro e w1 ⟨rfl, rfl⟩
        go_wp2_with fail
        go_ret
        exact ⟨ret_nat (by rw [HC.out]), HB0.out⟩
  · have HC := Lib.hid (HO1.out (fun h => h0 h.1))
    have hq1 : ((ofL x.other).toList == []) = false := by rw [hq]; exact beq_eq_false_iff_ne.2 h0
    clear hq h0
    go_enter Tryz.func131, Tryz.ntmps131
    go_wp2_with fail
    refine (hN.out _).mono ?_
    rintro e w1 ⟨rfl, rfl⟩
    go_wp2_with fail
    go_ret
    exact ⟨ret_nat (by rw [HC.out]), HB0.out⟩
theorem kcode_11 {x : Me} (h : x.kd.toNat = 11) : x.kcode = Wrd.keyCode [] x.key := by unfold Me.kcode; rw [if_pos h]
theorem kcode_no {x : Me} (h : ¬ x.kd.toNat = 11) : x.kcode = Wrd.keyCode wild x.key := by unfold Me.kcode; rw [if_neg h]
theorem me_key_any (x : Me) (A : Option Addr) (c : Nat) (w : World) (hk : x.key.length ≤ 90000) (hL : Len w) : Calls Tryz.prog 132 #[meV x A c] w fun e w' => e = .returned (.int .i64 (x.kcode : Int)) ∧ Below w.heap.size w w' := by
  have HB0 := Lib.hid (show Below w.heap.size w (w.alloc (.cells #[.int .u8 (x.ch.toNat : Int), .int .u8 (x.kd.toNat : Int), .string (ofL x.name), .string (ofL x.other), .string (ofL x.key), .slice A x.head.length c, .string (ofL x.body), .int .u64 (x.n : Int), .int .u64 (x.m : Int), .bool x.yes] 25)) from (Below.refl _ _).alloc (Nat.le_refl _) _)
  have HL0 := Lib.hid (hL.on HB0.out)
  have HK := Lib.hid (fun W h => key_any x.key W (by omega) h)
  have HPT := Lib.hid (fun W h => pattern_any x.key W (by omega) h)
  have HO0 := Lib.hid (fun h => kcode_11 (x := x) h)
  have HO1 := Lib.hid (fun h => kcode_no (x := x) h)
  generalize x.kcode = C at *
  simp only [meV]
  clear hk hL
  by_cases h0 : x.kd.toNat = 11
  · have HC := Lib.hid (HO0.out h0)
    have hz : ((x.kd.toNat : Int) == 11) = true := by rw [h0]; rfl
    clear h0
    go_enter Tryz.func132, Tryz.ntmps132
    go_wp2_with fail
    refine (HK.out _ HL0.out).mono ?_
    rintro e w1 ⟨rfl, b1⟩
    have HB1 := Lib.hid (bthen HB0.out b1 (Nat.le_refl _))
    clear b1
    go_wp2_with fail
    go_ret
    exact ⟨ret_nat (by rw [HC.out]), HB1.out⟩
  · have HC := Lib.hid (HO1.out h0)
    have hz : ((x.kd.toNat : Int) == 11) = false := beq_eq_false_iff_ne.2 (by omega)
    clear h0
    go_enter Tryz.func132, Tryz.ntmps132
    go_wp2_with fail
    refine (HPT.out _ HL0.out).mono ?_
    rintro e w1 ⟨rfl, b1⟩
    have HB1 := Lib.hid (bthen HB0.out b1 (Nat.le_refl _))
    clear b1
    go_wp2_with fail
    go_ret
    exact ⟨ret_nat (by rw [HC.out]), HB1.out⟩
theorem me_check_0 (x : Me) (A : Option Addr) (c : Nat) (w : World) (h : MeOk w x A c) (hL : Len w) : Calls Tryz.prog 100 #[meV x A c, .int .i64 0] w fun e w' => e = .returned (.int .i64 (x.pcode 0 : Int)) ∧ Below w.heap.size w w' := by
  have HB0 := Lib.hid (show Below w.heap.size w (w.alloc (.cells #[.int .u8 (x.ch.toNat : Int), .int .u8 (x.kd.toNat : Int), .string (ofL x.name), .string (ofL x.other), .string (ofL x.key), .slice A x.head.length c, .string (ofL x.body), .int .u64 (x.n : Int), .int .u64 (x.m : Int), .bool x.yes] 25)) from (Below.refl _ _).alloc (Nat.le_refl _) _)
  have HL0 := Lib.hid (hL.on HB0.out)
  have HX0 := Lib.hid (meBox x A c w 25)
  have HR0 := Lib.hid (h.on HB0.out)
  have HC := Lib.hid (show x.pcode 0 = Wrd.nameCode x.name from rfl)
  have HN := Lib.hid (fun W => name_any x.name W (by have := h.name; omega))
  generalize Wrd.nameCode x.name = C at *
  clear h hL
  simp only [meV]
  go_enter Tryz.func100, Tryz.ntmps100
  go_wp2_with fail
  refine (HN.out _).mono ?_
  rintro e w1 ⟨rfl, rfl⟩
  go_wp2_with fail
  go_ret
  exact ⟨ret_nat (by rw [HC.out]), HB0.out⟩
theorem me_check_1 (x : Me) (A : Option Addr) (c : Nat) (w : World) (h : MeOk w x A c) (hL : Len w) : Calls Tryz.prog 100 #[meV x A c, .int .i64 1] w fun e w' => e = .returned (.int .i64 (x.pcode 1 : Int)) ∧ Below w.heap.size w w' := by
  have HB0 := Lib.hid (show Below w.heap.size w (w.alloc (.cells #[.int .u8 (x.ch.toNat : Int), .int .u8 (x.kd.toNat : Int), .string (ofL x.name), .string (ofL x.other), .string (ofL x.key), .slice A x.head.length c, .string (ofL x.body), .int .u64 (x.n : Int), .int .u64 (x.m : Int), .bool x.yes] 25)) from (Below.refl _ _).alloc (Nat.le_refl _) _)
  have HL0 := Lib.hid (hL.on HB0.out)
  have HX0 := Lib.hid (meBox x A c w 25)
  have HR0 := Lib.hid (h.on HB0.out)
  have HC := Lib.hid (show x.pcode 1 = x.ocode from rfl)
  have HN := Lib.hid (fun W => me_other_any x A c W h.other)
  simp only [meV] at HN
  generalize x.ocode = C at *
  clear h hL
  simp only [meV]
  go_enter Tryz.func100, Tryz.ntmps100
  go_wp2_with fail
  refine (HN.out _).mono ?_
  rintro e w1 ⟨rfl, b1⟩
  have HB1 := Lib.hid (bthen HB0.out b1 (Nat.le_refl _))
  clear b1
  go_wp2_with fail
  go_ret
  exact ⟨ret_nat (by rw [HC.out]), HB1.out⟩
theorem me_check_2 (x : Me) (A : Option Addr) (c : Nat) (w : World) (h : MeOk w x A c) (hL : Len w) : Calls Tryz.prog 100 #[meV x A c, .int .i64 2] w fun e w' => e = .returned (.int .i64 (x.pcode 2 : Int)) ∧ Below w.heap.size w w' := by
  have HB0 := Lib.hid (show Below w.heap.size w (w.alloc (.cells #[.int .u8 (x.ch.toNat : Int), .int .u8 (x.kd.toNat : Int), .string (ofL x.name), .string (ofL x.other), .string (ofL x.key), .slice A x.head.length c, .string (ofL x.body), .int .u64 (x.n : Int), .int .u64 (x.m : Int), .bool x.yes] 25)) from (Below.refl _ _).alloc (Nat.le_refl _) _)
  have HL0 := Lib.hid (hL.on HB0.out)
  have HX0 := Lib.hid (meBox x A c w 25)
  have HR0 := Lib.hid (h.on HB0.out)
  have HC := Lib.hid (show x.pcode 2 = x.kcode from rfl)
  have HN := Lib.hid (fun W h2 => me_key_any x A c W h.key h2)
  simp only [meV] at HN
  generalize x.kcode = C at *
  clear h hL
  simp only [meV]
  go_enter Tryz.func100, Tryz.ntmps100
  go_wp2_with fail
  refine (HN.out _ HL0.out).mono ?_
  rintro e w1 ⟨rfl, b1⟩
  have HB1 := Lib.hid (bthen HB0.out b1 (Nat.le_refl _))
  clear b1
  go_wp2_with fail
  go_ret
  exact ⟨ret_nat (by rw [HC.out]), HB1.out⟩
theorem me_check_3 (x : Me) (A : Option Addr) (c : Nat) (w : World) (h : MeOk w x A c) (hL : Len w) : Calls Tryz.prog 100 #[meV x A c, .int .i64 3] w fun e w' => e = .returned (.int .i64 (x.pcode 3 : Int)) ∧ Below w.heap.size w w' := by
  have HB0 := Lib.hid (show Below w.heap.size w (w.alloc (.cells #[.int .u8 (x.ch.toNat : Int), .int .u8 (x.kd.toNat : Int), .string (ofL x.name), .string (ofL x.other), .string (ofL x.key), .slice A x.head.length c, .string (ofL x.body), .int .u64 (x.n : Int), .int .u64 (x.m : Int), .bool x.yes] 25)) from (Below.refl _ _).alloc (Nat.le_refl _) _)
  have HL0 := Lib.hid (hL.on HB0.out)
  have HX0 := Lib.hid (meBox x A c w 25)
  have HR0 := Lib.hid (h.on HB0.out)
  have HC := Lib.hid (show x.pcode 3 = Hd.hcode x.head from rfl)
  have HN := Lib.hid (fun W h2 => hCheck_any x.head A c W h.len h.cap h.lite h2)
  generalize Hd.hcode x.head = C at *
  clear h hL
  simp only [meV]
  go_enter Tryz.func100, Tryz.ntmps100
  go_wp2_with fail
  refine (HN.out _ HR0.out.row).mono ?_
  rintro e w1 ⟨rfl, b1⟩
  have HB1 := Lib.hid (bthen HB0.out b1 (Nat.le_refl _))
  clear b1
  go_wp2_with fail
  go_ret
  exact ⟨ret_nat (by rw [HC.out]), HB1.out⟩
theorem me_check_4 (x : Me) (A : Option Addr) (c : Nat) (w : World) (h : MeOk w x A c) (hL : Len w) : Calls Tryz.prog 100 #[meV x A c, .int .i64 4] w fun e w' => e = .returned (.int .i64 (x.pcode 4 : Int)) ∧ Below w.heap.size w w' := by
  have HB0 := Lib.hid (show Below w.heap.size w (w.alloc (.cells #[.int .u8 (x.ch.toNat : Int), .int .u8 (x.kd.toNat : Int), .string (ofL x.name), .string (ofL x.other), .string (ofL x.key), .slice A x.head.length c, .string (ofL x.body), .int .u64 (x.n : Int), .int .u64 (x.m : Int), .bool x.yes] 25)) from (Below.refl _ _).alloc (Nat.le_refl _) _)
  have HL0 := Lib.hid (hL.on HB0.out)
  have HX0 := Lib.hid (meBox x A c w 25)
  have HR0 := Lib.hid (h.on HB0.out)
  have HC := Lib.hid (show x.pcode 4 = (if 256 < x.body.length then 5 else 0) from rfl)
  have hz : (ofL x.body).size = x.body.length := ofL_size x.body
  clear h hL
  simp only [meV]
  by_cases h2 : 256 < x.body.length
  · have HD := Lib.hid (show x.pcode 4 = 5 by rw [HC.out, if_pos h2])
    have h20 : 256 < (ofL x.body).size := by omega
    clear hz h2
    go_enter Tryz.func100, Tryz.ntmps100
    go_wp2_with fail
    go_ret
    exact ⟨ret_nat (by rw [HD.out]; rfl), HB0.out⟩
  · have HD := Lib.hid (show x.pcode 4 = 0 by rw [HC.out, if_neg h2])
    have h20 : ¬ 256 < (ofL x.body).size := by omega
    clear hz h2
    go_enter Tryz.func100, Tryz.ntmps100
    go_wp2_with fail
    go_ret
    exact ⟨ret_nat (by rw [HD.out]; rfl), HB0.out⟩
theorem me_check_5 (x : Me) (A : Option Addr) (c : Nat) (w : World) (h : MeOk w x A c) (hL : Len w) : Calls Tryz.prog 100 #[meV x A c, .int .i64 5] w fun e w' => e = .returned (.int .i64 (x.pcode 5 : Int)) ∧ Below w.heap.size w w' := by
  have HB0 := Lib.hid (show Below w.heap.size w (w.alloc (.cells #[.int .u8 (x.ch.toNat : Int), .int .u8 (x.kd.toNat : Int), .string (ofL x.name), .string (ofL x.other), .string (ofL x.key), .slice A x.head.length c, .string (ofL x.body), .int .u64 (x.n : Int), .int .u64 (x.m : Int), .bool x.yes] 25)) from (Below.refl _ _).alloc (Nat.le_refl _) _)
  have HL0 := Lib.hid (hL.on HB0.out)
  have HX0 := Lib.hid (meBox x A c w 25)
  have HR0 := Lib.hid (h.on HB0.out)
  have HC := Lib.hid (show x.pcode 5 = 0 from rfl)
  clear h hL
  simp only [meV]
  go_enter Tryz.func100, Tryz.ntmps100
  go_wp2_with fail
  go_ret
  exact ⟨ret_nat (by rw [HC.out]; rfl), HB0.out⟩
theorem me_check_6 (x : Me) (A : Option Addr) (c : Nat) (w : World) (h : MeOk w x A c) (hL : Len w) : Calls Tryz.prog 100 #[meV x A c, .int .i64 6] w fun e w' => e = .returned (.int .i64 (x.pcode 6 : Int)) ∧ Below w.heap.size w w' := by
  have HB0 := Lib.hid (show Below w.heap.size w (w.alloc (.cells #[.int .u8 (x.ch.toNat : Int), .int .u8 (x.kd.toNat : Int), .string (ofL x.name), .string (ofL x.other), .string (ofL x.key), .slice A x.head.length c, .string (ofL x.body), .int .u64 (x.n : Int), .int .u64 (x.m : Int), .bool x.yes] 25)) from (Below.refl _ _).alloc (Nat.le_refl _) _)
  have HL0 := Lib.hid (hL.on HB0.out)
  have HX0 := Lib.hid (meBox x A c w 25)
  have HR0 := Lib.hid (h.on HB0.out)
  have HC := Lib.hid (show x.pcode 6 = 0 from rfl)
  clear h hL
  simp only [meV]
  go_enter Tryz.func100, Tryz.ntmps100
  go_wp2_with fail
  go_ret
  exact ⟨ret_nat (by rw [HC.out]; rfl), HB0.out⟩
theorem me_check_7 (x : Me) (A : Option Addr) (c : Nat) (w : World) (h : MeOk w x A c) (hL : Len w) : Calls Tryz.prog 100 #[meV x A c, .int .i64 7] w fun e w' => e = .returned (.int .i64 (x.pcode 7 : Int)) ∧ Below w.heap.size w w' := by
  have HB0 := Lib.hid (show Below w.heap.size w (w.alloc (.cells #[.int .u8 (x.ch.toNat : Int), .int .u8 (x.kd.toNat : Int), .string (ofL x.name), .string (ofL x.other), .string (ofL x.key), .slice A x.head.length c, .string (ofL x.body), .int .u64 (x.n : Int), .int .u64 (x.m : Int), .bool x.yes] 25)) from (Below.refl _ _).alloc (Nat.le_refl _) _)
  have HL0 := Lib.hid (hL.on HB0.out)
  have HX0 := Lib.hid (meBox x A c w 25)
  have HR0 := Lib.hid (h.on HB0.out)
  have HC := Lib.hid (show x.pcode 7 = 0 from rfl)
  clear h hL
  simp only [meV]
  go_enter Tryz.func100, Tryz.ntmps100
  go_wp2_with fail
  go_ret
  exact ⟨ret_nat (by rw [HC.out]; rfl), HB0.out⟩
theorem me_check_any (x : Me) (A : Option Addr) (c p : Nat) (hp : p < 8) (w : World) (h : MeOk w x A c) (hL : Len w) : Calls Tryz.prog 100 #[meV x A c, .int .i64 (p : Int)] w fun e w' => e = .returned (.int .i64 (x.pcode p : Int)) ∧ Below w.heap.size w w' := by
  rcases Me.lt8 hp with rfl | rfl | rfl | rfl | rfl | rfl | rfl | rfl
  · exact me_check_0 x A c w h hL
  · exact me_check_1 x A c w h hL
  · exact me_check_2 x A c w h hL
  · exact me_check_3 x A c w h hL
  · exact me_check_4 x A c w h hL
  · exact me_check_5 x A c w h hL
  · exact me_check_6 x A c w h hL
  · exact me_check_7 x A c w h hL
end Go.Proofs.YtgaggelpjaiabaaGreatDoor
end
