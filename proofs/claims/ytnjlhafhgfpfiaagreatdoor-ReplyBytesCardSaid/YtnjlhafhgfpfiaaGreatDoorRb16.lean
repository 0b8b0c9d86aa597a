/-
  WHETHER A REPLY MAY BE: walked.
-/
import Derived.Test.YtnjlhafhgfpfiaaGreatDoorRb09
import Derived.Test.YtnjlhafhgfpfiaaGreatDoorRb12
import Derived.Test.YtnjlhafhgfpfiaaGreatDoorRb15

section
namespace Go.Proofs.YtnjlhafhgfpfiaaGreatDoor
open Go.ChangeShapes Go.WideShapes Go.ChangeAt Go.RowKit
def reV (x : Re) (A : Option Addr) (c : Nat) : Value := .agg #[.int .u8 (x.ch.toNat : Int), .int .u8 (x.kd.toNat : Int), .int .u64 (x.n : Int), .int .u64 (x.m : Int), .bool x.yes, .string (ofL x.name), .int .u64 (x.id : Int), .string (ofL x.shop), .string (ofL x.key), .slice A x.head.length c, .string (ofL x.body), .int .u64 (x.due : Int), .int .u8 (x.hops : Int)]
def reL (x : Re) (A : Option Addr) (c : Nat) : List Value := [.int .u8 (x.ch.toNat : Int), .int .u8 (x.kd.toNat : Int), .int .u64 (x.n : Int), .int .u64 (x.m : Int), .bool x.yes, .string (ofL x.name), .int .u64 (x.id : Int), .string (ofL x.shop), .string (ofL x.key), .slice A x.head.length c, .string (ofL x.body), .int .u64 (x.due : Int), .int .u8 (x.hops : Int)]
/-- its numbers are such that it can be walked -/
structure ReOk (w : World) (x : Re) (A : Option Addr) (c : Nat) : Prop where
  name : x.name.length ≤ 90000
  shop : x.shop.length ≤ 90000
  key : x.key.length ≤ 90000
  body : x.body.length ≤ 90000
  len : x.head.length ≤ 100000
  cap : x.head.length ≤ c
  lite : Lite x.head
  row : Prs w A x.head
theorem ReOk.on {w w' : World} {x : Re} {A : Option Addr} {c : Nat} (h : ReOk w x A c) (hb : Below w.heap.size w w') : ReOk w' x A c := ⟨h.name, h.shop, h.key, h.body, h.len, h.cap, h.lite, h.row.on hb⟩
theorem reBox (x : Re) (A : Option Addr) (c : Nat) (w : World) (t : TypeId) : Cels (w.alloc (.cells #[.int .u8 (x.ch.toNat : Int), .int .u8 (x.kd.toNat : Int), .int .u64 (x.n : Int), .int .u64 (x.m : Int), .bool x.yes, .string (ofL x.name), .int .u64 (x.id : Int), .string (ofL x.shop), .string (ofL x.key), .slice A x.head.length c, .string (ofL x.body), .int .u64 (x.due : Int), .int .u8 (x.hops : Int)] t)) w.heap.size (reL x A c) := Cels.new w _ t
theorem re_lacks_0 (x : Re) (A : Option Addr) (c : Nat) (w : World) : Calls Tryz.prog 59 #[reV x A c, .int .i64 0] w fun e w' => e = .returned (.bool (x.lacks 0)) ∧ Below w.heap.size w w' := by
  have HB0 := Lib.hid (show Below w.heap.size w (w.alloc (.cells #[.int .u8 (x.ch.toNat : Int), .int .u8 (x.kd.toNat : Int), .int .u64 (x.n : Int), .int .u64 (x.m : Int), .bool x.yes, .string (ofL x.name), .int .u64 (x.id : Int), .string (ofL x.shop), .string (ofL x.key), .slice A x.head.length c, .string (ofL x.body), .int .u64 (x.due : Int), .int .u8 (x.hops : Int)] 30)) from (Below.refl _ _).alloc (Nat.le_refl _) _)
  have HC := Lib.hid (show x.lacks 0 = ((x.n == 0)) from rfl)
  have hq : ((x.n : Int) == 0) = (x.n == 0) := cast_beq x.n 0
  simp only [reV]
  go_enter Tryz.func59, Tryz.ntmps59
  go_wp2_with fail
  go_ret
  exact ⟨ret_bool (by rw [HC.out]), HB0.out⟩
theorem re_lacks_1 (x : Re) (A : Option Addr) (c : Nat) (w : World) : Calls Tryz.prog 59 #[reV x A c, .int .i64 1] w fun e w' => e = .returned (.bool (x.lacks 1)) ∧ Below w.heap.size w w' := by
  have HB0 := Lib.hid (show Below w.heap.size w (w.alloc (.cells #[.int .u8 (x.ch.toNat : Int), .int .u8 (x.kd.toNat : Int), .int .u64 (x.n : Int), .int .u64 (x.m : Int), .bool x.yes, .string (ofL x.name), .int .u64 (x.id : Int), .string (ofL x.shop), .string (ofL x.key), .slice A x.head.length c, .string (ofL x.body), .int .u64 (x.due : Int), .int .u8 (x.hops : Int)] 30)) from (Below.refl _ _).alloc (Nat.le_refl _) _)
  have HC := Lib.hid (show x.lacks 1 = ((x.m == 0)) from rfl)
  have hq : ((x.m : Int) == 0) = (x.m == 0) := cast_beq x.m 0
  simp only [reV]
  go_enter Tryz.func59, Tryz.ntmps59
  go_wp2_with fail
  go_ret
  exact ⟨ret_bool (by rw [HC.out]), HB0.out⟩
theorem re_lacks_2 (x : Re) (A : Option Addr) (c : Nat) (w : World) : Calls Tryz.prog 59 #[reV x A c, .int .i64 2] w fun e w' => e = .returned (.bool (x.lacks 2)) ∧ Below w.heap.size w w' := by
  have HB0 := Lib.hid (show Below w.heap.size w (w.alloc (.cells #[.int .u8 (x.ch.toNat : Int), .int .u8 (x.kd.toNat : Int), .int .u64 (x.n : Int), .int .u64 (x.m : Int), .bool x.yes, .string (ofL x.name), .int .u64 (x.id : Int), .string (ofL x.shop), .string (ofL x.key), .slice A x.head.length c, .string (ofL x.body), .int .u64 (x.due : Int), .int .u8 (x.hops : Int)] 30)) from (Below.refl _ _).alloc (Nat.le_refl _) _)
  have HC := Lib.hid (show x.lacks 2 = (!x.yes) from rfl)
  have hq : True := trivial
  simp only [reV]
  go_enter Tryz.func59, Tryz.ntmps59
  go_wp2_with fail
  go_ret
  exact ⟨ret_bool (by rw [HC.out]), HB0.out⟩
theorem re_lacks_3 (x : Re) (A : Option Addr) (c : Nat) (w : World) : Calls Tryz.prog 59 #[reV x A c, .int .i64 3] w fun e w' => e = .returned (.bool (x.lacks 3)) ∧ Below w.heap.size w w' := by
  have HB0 := Lib.hid (show Below w.heap.size w (w.alloc (.cells #[.int .u8 (x.ch.toNat : Int), .int .u8 (x.kd.toNat : Int), .int .u64 (x.n : Int), .int .u64 (x.m : Int), .bool x.yes, .string (ofL x.name), .int .u64 (x.id : Int), .string (ofL x.shop), .string (ofL x.key), .slice A x.head.length c, .string (ofL x.body), .int .u64 (x.due : Int), .int .u8 (x.hops : Int)] 30)) from (Below.refl _ _).alloc (Nat.le_refl _) _)
  have HC := Lib.hid (show x.lacks 3 = ((x.name == [])) from rfl)
  have hq : ((ofL x.name).toList == []) = (x.name == []) := by rw [str_list]
  simp only [reV]
  go_enter Tryz.func59, Tryz.ntmps59
  go_wp2_with fail
  go_ret
  exact ⟨ret_bool (by rw [HC.out, emp_eq]), HB0.out⟩
theorem re_lacks_4 (x : Re) (A : Option Addr) (c : Nat) (w : World) : Calls Tryz.prog 59 #[reV x A c, .int .i64 4] w fun e w' => e = .returned (.bool (x.lacks 4)) ∧ Below w.heap.size w w' := by
  have HB0 := Lib.hid (show Below w.heap.size w (w.alloc (.cells #[.int .u8 (x.ch.toNat : Int), .int .u8 (x.kd.toNat : Int), .int .u64 (x.n : Int), .int .u64 (x.m : Int), .bool x.yes, .string (ofL x.name), .int .u64 (x.id : Int), .string (ofL x.shop), .string (ofL x.key), .slice A x.head.length c, .string (ofL x.body), .int .u64 (x.due : Int), .int .u8 (x.hops : Int)] 30)) from (Below.refl _ _).alloc (Nat.le_refl _) _)
  have HC := Lib.hid (show x.lacks 4 = ((x.shop == [])) from rfl)
  have hq : ((ofL x.shop).toList == []) = (x.shop == []) := by rw [str_list]
  simp only [reV]
  go_enter Tryz.func59, Tryz.ntmps59
  go_wp2_with fail
  go_ret
  exact ⟨ret_bool (by rw [HC.out, emp_eq]), HB0.out⟩
theorem re_lacks_5 (x : Re) (A : Option Addr) (c : Nat) (w : World) : Calls Tryz.prog 59 #[reV x A c, .int .i64 5] w fun e w' => e = .returned (.bool (x.lacks 5)) ∧ Below w.heap.size w w' := by
  have HB0 := Lib.hid (show Below w.heap.size w (w.alloc (.cells #[.int .u8 (x.ch.toNat : Int), .int .u8 (x.kd.toNat : Int), .int .u64 (x.n : Int), .int .u64 (x.m : Int), .bool x.yes, .string (ofL x.name), .int .u64 (x.id : Int), .string (ofL x.shop), .string (ofL x.key), .slice A x.head.length c, .string (ofL x.body), .int .u64 (x.due : Int), .int .u8 (x.hops : Int)] 30)) from (Below.refl _ _).alloc (Nat.le_refl _) _)
  have HC := Lib.hid (show x.lacks 5 = ((x.key == [])) from rfl)
  have hq : ((ofL x.key).toList == []) = (x.key == []) := by rw [str_list]
  simp only [reV]
  go_enter Tryz.func59, Tryz.ntmps59
  go_wp2_with fail
  go_ret
  exact ⟨ret_bool (by rw [HC.out, emp_eq]), HB0.out⟩
theorem re_lacks_6 (x : Re) (A : Option Addr) (c : Nat) (w : World) : Calls Tryz.prog 59 #[reV x A c, .int .i64 6] w fun e w' => e = .returned (.bool (x.lacks 6)) ∧ Below w.heap.size w w' := by
  have HB0 := Lib.hid (show Below w.heap.size w (w.alloc (.cells #[.int .u8 (x.ch.toNat : Int), .int .u8 (x.kd.toNat : Int), .int .u64 (x.n : Int), .int .u64 (x.m : Int), .bool x.yes, .string (ofL x.name), .int .u64 (x.id : Int), .string (ofL x.shop), .string (ofL x.key), .slice A x.head.length c, .string (ofL x.body), .int .u64 (x.due : Int), .int .u8 (x.hops : Int)] 30)) from (Below.refl _ _).alloc (Nat.le_refl _) _)
  have HC := Lib.hid (show x.lacks 6 = ((x.head.length == 0)) from rfl)
  have hq : ((x.head.length : Int) == 0) = (x.head.length == 0) := cast_beq x.head.length 0
  simp only [reV]
  go_enter Tryz.func59, Tryz.ntmps59
  go_wp2_with fail
  go_ret
  exact ⟨ret_bool (by rw [HC.out]), HB0.out⟩
theorem re_lacks_7 (x : Re) (A : Option Addr) (c : Nat) (w : World) : Calls Tryz.prog 59 #[reV x A c, .int .i64 7] w fun e w' => e = .returned (.bool (x.lacks 7)) ∧ Below w.heap.size w w' := by
  have HB0 := Lib.hid (show Below w.heap.size w (w.alloc (.cells #[.int .u8 (x.ch.toNat : Int), .int .u8 (x.kd.toNat : Int), .int .u64 (x.n : Int), .int .u64 (x.m : Int), .bool x.yes, .string (ofL x.name), .int .u64 (x.id : Int), .string (ofL x.shop), .string (ofL x.key), .slice A x.head.length c, .string (ofL x.body), .int .u64 (x.due : Int), .int .u8 (x.hops : Int)] 30)) from (Below.refl _ _).alloc (Nat.le_refl _) _)
  have HC := Lib.hid (show x.lacks 7 = ((x.body == [])) from rfl)
  have hq : ((ofL x.body).toList == []) = (x.body == []) := by rw [str_list]
  simp only [reV]
  go_enter Tryz.func59, Tryz.ntmps59
  go_wp2_with fail
  go_ret
  exact ⟨ret_bool (by rw [HC.out, emp_eq]), HB0.out⟩
theorem re_lacks_8 (x : Re) (A : Option Addr) (c : Nat) (w : World) : Calls Tryz.prog 59 #[reV x A c, .int .i64 8] w fun e w' => e = .returned (.bool (x.lacks 8)) ∧ Below w.heap.size w w' := by
  have HB0 := Lib.hid (show Below w.heap.size w (w.alloc (.cells #[.int .u8 (x.ch.toNat : Int), .int .u8 (x.kd.toNat : Int), .int .u64 (x.n : Int), .int .u64 (x.m : Int), .bool x.yes, .string (ofL x.name), .int .u64 (x.id : Int), .string (ofL x.shop), .string (ofL x.key), .slice A x.head.length c, .string (ofL x.body), .int .u64 (x.due : Int), .int .u8 (x.hops : Int)] 30)) from (Below.refl _ _).alloc (Nat.le_refl _) _)
  have HC := Lib.hid (show x.lacks 8 = (x.id == 0 && x.due == 0 && x.hops == 0) from rfl)
  have h1 : ((x.id : Int) == 0) = (x.id == 0) := cast_beq x.id 0
  have h2 : ((x.due : Int) == 0) = (x.due == 0) := cast_beq x.due 0
  have h3 : ((x.hops : Int) == 0) = (x.hops == 0) := cast_beq x.hops 0
  simp only [reV]
  cases e1 : x.id == 0 with
  | false =>
    rw [e1] at h1
    go_enter Tryz.func59, Tryz.ntmps59
    go_wp2_with fail
    go_ret
    exact ⟨ret_bool (by rw [HC.out, e1]; rfl), HB0.out⟩
  | true =>
    rw [e1] at h1
    cases e2 : x.due == 0 with
    | false =>
      rw [e2] at h2
      go_enter Tryz.func59, Tryz.ntmps59
      go_wp2_with fail
      go_ret
      exact ⟨ret_bool (by rw [HC.out, e1, e2]; rfl), HB0.out⟩
    | true =>
      rw [e2] at h2
      go_enter Tryz.func59, Tryz.ntmps59
      go_wp2_with fail
      go_ret
      exact ⟨ret_bool (by rw [HC.out, e1, e2]; rfl), HB0.out⟩
theorem re_lacks_any (x : Re) (A : Option Addr) (c p : Nat) (hp : p < 9) (w : World) : Calls Tryz.prog 59 #[reV x A c, .int .i64 (p : Int)] w fun e w' => e = .returned (.bool (x.lacks p)) ∧ Below w.heap.size w w' := by
  obtain rfl | rfl | rfl | rfl | rfl | rfl | rfl | rfl | rfl : p = 0 ∨ p = 1 ∨ p = 2 ∨ p = 3 ∨ p = 4 ∨ p = 5 ∨ p = 6 ∨ p = 7 ∨ p = 8 := by omega
  · exact re_lacks_0 x A c w
  · exact re_lacks_1 x A c w
  · exact re_lacks_2 x A c w
  · exact re_lacks_3 x A c w
  · exact re_lacks_4 x A c w
  · exact re_lacks_5 x A c w
  · exact re_lacks_6 x A c w
  · exact re_lacks_7 x A c w
  · exact re_lacks_8 x A c w
theorem re_check_0 (x : Re) (A : Option Addr) (c : Nat) (w : World) (h : ReOk w x A c) (hL : Len w) : Calls Tryz.prog 60 #[reV x A c, .int .i64 0] w fun e w' => e = .returned (.int .i64 (x.pcode 0 : Int)) ∧ Below w.heap.size w w' := by
  have HB0 := Lib.hid (show Below w.heap.size w (w.alloc (.cells #[.int .u8 (x.ch.toNat : Int), .int .u8 (x.kd.toNat : Int), .int .u64 (x.n : Int), .int .u64 (x.m : Int), .bool x.yes, .string (ofL x.name), .int .u64 (x.id : Int), .string (ofL x.shop), .string (ofL x.key), .slice A x.head.length c, .string (ofL x.body), .int .u64 (x.due : Int), .int .u8 (x.hops : Int)] 30)) from (Below.refl _ _).alloc (Nat.le_refl _) _)
  have HL0 := Lib.hid (hL.on HB0.out)
  have HX0 := Lib.hid (reBox x A c w 30)
  have HR0 := Lib.hid (h.on HB0.out)
  have HC := Lib.hid (show x.pcode 0 = 0 from rfl)
  clear h hL
  simp only [reV]
  go_enter Tryz.func60, Tryz.ntmps60
  go_wp2_with fail
  go_ret
  exact ⟨ret_nat (by rw [HC.out]; rfl), HB0.out⟩
theorem re_check_1 (x : Re) (A : Option Addr) (c : Nat) (w : World) (h : ReOk w x A c) (hL : Len w) : Calls Tryz.prog 60 #[reV x A c, .int .i64 1] w fun e w' => e = .returned (.int .i64 (x.pcode 1 : Int)) ∧ Below w.heap.size w w' := by
  have HB0 := Lib.hid (show Below w.heap.size w (w.alloc (.cells #[.int .u8 (x.ch.toNat : Int), .int .u8 (x.kd.toNat : Int), .int .u64 (x.n : Int), .int .u64 (x.m : Int), .bool x.yes, .string (ofL x.name), .int .u64 (x.id : Int), .string (ofL x.shop), .string (ofL x.key), .slice A x.head.length c, .string (ofL x.body), .int .u64 (x.due : Int), .int .u8 (x.hops : Int)] 30)) from (Below.refl _ _).alloc (Nat.le_refl _) _)
  have HL0 := Lib.hid (hL.on HB0.out)
  have HX0 := Lib.hid (reBox x A c w 30)
  have HR0 := Lib.hid (h.on HB0.out)
  have HC := Lib.hid (show x.pcode 1 = 0 from rfl)
  clear h hL
  simp only [reV]
  go_enter Tryz.func60, Tryz.ntmps60
  go_wp2_with fail
  go_ret
  exact ⟨ret_nat (by rw [HC.out]; rfl), HB0.out⟩
theorem re_check_2 (x : Re) (A : Option Addr) (c : Nat) (w : World) (h : ReOk w x A c) (hL : Len w) : Calls Tryz.prog 60 #[reV x A c, .int .i64 2] w fun e w' => e = .returned (.int .i64 (x.pcode 2 : Int)) ∧ Below w.heap.size w w' := by
  have HB0 := Lib.hid (show Below w.heap.size w (w.alloc (.cells #[.int .u8 (x.ch.toNat : Int), .int .u8 (x.kd.toNat : Int), .int .u64 (x.n : Int), .int .u64 (x.m : Int), .bool x.yes, .string (ofL x.name), .int .u64 (x.id : Int), .string (ofL x.shop), .string (ofL x.key), .slice A x.head.length c, .string (ofL x.body), .int .u64 (x.due : Int), .int .u8 (x.hops : Int)] 30)) from (Below.refl _ _).alloc (Nat.le_refl _) _)
  have HL0 := Lib.hid (hL.on HB0.out)
  have HX0 := Lib.hid (reBox x A c w 30)
  have HR0 := Lib.hid (h.on HB0.out)
  have HC := Lib.hid (show x.pcode 2 = 0 from rfl)
  clear h hL
  simp only [reV]
  go_enter Tryz.func60, Tryz.ntmps60
  go_wp2_with fail
  go_ret
  exact ⟨ret_nat (by rw [HC.out]; rfl), HB0.out⟩
theorem re_check_3 (x : Re) (A : Option Addr) (c : Nat) (w : World) (h : ReOk w x A c) (hL : Len w) : Calls Tryz.prog 60 #[reV x A c, .int .i64 3] w fun e w' => e = .returned (.int .i64 (x.pcode 3 : Int)) ∧ Below w.heap.size w w' := by
  have HB0 := Lib.hid (show Below w.heap.size w (w.alloc (.cells #[.int .u8 (x.ch.toNat : Int), .int .u8 (x.kd.toNat : Int), .int .u64 (x.n : Int), .int .u64 (x.m : Int), .bool x.yes, .string (ofL x.name), .int .u64 (x.id : Int), .string (ofL x.shop), .string (ofL x.key), .slice A x.head.length c, .string (ofL x.body), .int .u64 (x.due : Int), .int .u8 (x.hops : Int)] 30)) from (Below.refl _ _).alloc (Nat.le_refl _) _)
  have HL0 := Lib.hid (hL.on HB0.out)
  have HX0 := Lib.hid (reBox x A c w 30)
  have HR0 := Lib.hid (h.on HB0.out)
  have HC := Lib.hid (show x.pcode 3 = Wrd.nameCode x.name from rfl)
  have HN := Lib.hid (fun W => name_any x.name W (by have := h.name; omega))
  generalize Wrd.nameCode x.name = C at *
  clear h hL
  simp only [reV]
  go_enter Tryz.func60, Tryz.ntmps60
  go_wp2_with fail
  refine (HN.out _).mono ?_
  rintro e w1 ⟨rfl, rfl⟩
  go_wp2_with fail
  go_ret
  exact ⟨ret_nat (by rw [HC.out]), HB0.out⟩
theorem re_check_4 (x : Re) (A : Option Addr) (c : Nat) (w : World) (h : ReOk w x A c) (hL : Len w) : Calls Tryz.prog 60 #[reV x A c, .int .i64 4] w fun e w' => e = .returned (.int .i64 (x.pcode 4 : Int)) ∧ Below w.heap.size w w' := by
  have HB0 := Lib.hid (show Below w.heap.size w (w.alloc (.cells #[.int .u8 (x.ch.toNat : Int), .int .u8 (x.kd.toNat : Int), .int .u64 (x.n : Int), .int .u64 (x.m : Int), .bool x.yes, .string (ofL x.name), .int .u64 (x.id : Int), .string (ofL x.shop), .string (ofL x.key), .slice A x.head.length c, .string (ofL x.body), .int .u64 (x.due : Int), .int .u8 (x.hops : Int)] 30)) from (Below.refl _ _).alloc (Nat.le_refl _) _)
  have HL0 := Lib.hid (hL.on HB0.out)
  have HX0 := Lib.hid (reBox x A c w 30)
  have HR0 := Lib.hid (h.on HB0.out)
  have HC := Lib.hid (show x.pcode 4 = Wrd.nameCode x.shop from rfl)
  have HN := Lib.hid (fun W => name_any x.shop W (by have := h.shop; omega))
  generalize Wrd.nameCode x.shop = C at *
  clear h hL
  simp only [reV]
  go_enter Tryz.func60, Tryz.ntmps60
  go_wp2_with fail
  refine (HN.out _).mono ?_
  rintro e w1 ⟨rfl, rfl⟩
  go_wp2_with fail
  go_ret
  exact ⟨ret_nat (by rw [HC.out]), HB0.out⟩
theorem re_check_5 (x : Re) (A : Option Addr) (c : Nat) (w : World) (h : ReOk w x A c) (hL : Len w) : Calls Tryz.prog 60 #[reV x A c, .int .i64 5] w fun e w' => e = .returned (.int .i64 (x.pcode 5 : Int)) ∧ Below w.heap.size w w' := by
  have HB0 := Lib.hid (show Below w.heap.size w (w.alloc (.cells #[.int .u8 (x.ch.toNat : Int), .int .u8 (x.kd.toNat : Int), .int .u64 (x.n : Int), .int .u64 (x.m : Int), .bool x.yes, .string (ofL x.name), .int .u64 (x.id : Int), .string (ofL x.shop), .string (ofL x.key), .slice A x.head.length c, .string (ofL x.body), .int .u64 (x.due : Int), .int .u8 (x.hops : Int)] 30)) from (Below.refl _ _).alloc (Nat.le_refl _) _)
  have HL0 := Lib.hid (hL.on HB0.out)
  have HX0 := Lib.hid (reBox x A c w 30)
  have HR0 := Lib.hid (h.on HB0.out)
  have HC := Lib.hid (show x.pcode 5 = Wrd.keyCode [] x.key from rfl)
  have HN := Lib.hid (fun W h2 => key_any x.key W (by have := h.key; omega) h2)
  generalize Wrd.keyCode [] x.key = C at *
  clear h hL
  simp only [reV]
  go_enter Tryz.func60, Tryz.ntmps60
  go_wp2_with fail
  refine (HN.out _ HL0.out).mono ?_
  rintro e w1 ⟨rfl, b1⟩
  have HB1 := Lib.hid (bthen HB0.out b1 (Nat.le_refl _))
  clear b1
  go_wp2_with fail
  go_ret
  exact ⟨ret_nat (by rw [HC.out]), HB1.out⟩
theorem re_check_6 (x : Re) (A : Option Addr) (c : Nat) (w : World) (h : ReOk w x A c) (hL : Len w) : Calls Tryz.prog 60 #[reV x A c, .int .i64 6] w fun e w' => e = .returned (.int .i64 (x.pcode 6 : Int)) ∧ Below w.heap.size w w' := by
  have HB0 := Lib.hid (show Below w.heap.size w (w.alloc (.cells #[.int .u8 (x.ch.toNat : Int), .int .u8 (x.kd.toNat : Int), .int .u64 (x.n : Int), .int .u64 (x.m : Int), .bool x.yes, .string (ofL x.name), .int .u64 (x.id : Int), .string (ofL x.shop), .string (ofL x.key), .slice A x.head.length c, .string (ofL x.body), .int .u64 (x.due : Int), .int .u8 (x.hops : Int)] 30)) from (Below.refl _ _).alloc (Nat.le_refl _) _)
  have HL0 := Lib.hid (hL.on HB0.out)
  have HX0 := Lib.hid (reBox x A c w 30)
  have HR0 := Lib.hid (h.on HB0.out)
  have HC := Lib.hid (show x.pcode 6 = Hd.hcode x.head from rfl)
  have HN := Lib.hid (fun W h2 => hCheck_any x.head A c W h.len h.cap h.lite h2)
  generalize Hd.hcode x.head = C at *
  clear h hL
  simp only [reV]
  go_enter Tryz.func60, Tryz.ntmps60
  go_wp2_with fail
  refine (HN.out _ HR0.out.row).mono ?_
  rintro e w1 ⟨rfl, b1⟩
  have HB1 := Lib.hid (bthen HB0.out b1 (Nat.le_refl _))
  clear b1
  go_wp2_with fail
  go_ret
  exact ⟨ret_nat (by rw [HC.out]), HB1.out⟩
theorem re_check_7 (x : Re) (A : Option Addr) (c : Nat) (w : World) (h : ReOk w x A c) (hL : Len w) : Calls Tryz.prog 60 #[reV x A c, .int .i64 7] w fun e w' => e = .returned (.int .i64 (x.pcode 7 : Int)) ∧ Below w.heap.size w w' := by
  have HB0 := Lib.hid (show Below w.heap.size w (w.alloc (.cells #[.int .u8 (x.ch.toNat : Int), .int .u8 (x.kd.toNat : Int), .int .u64 (x.n : Int), .int .u64 (x.m : Int), .bool x.yes, .string (ofL x.name), .int .u64 (x.id : Int), .string (ofL x.shop), .string (ofL x.key), .slice A x.head.length c, .string (ofL x.body), .int .u64 (x.due : Int), .int .u8 (x.hops : Int)] 30)) from (Below.refl _ _).alloc (Nat.le_refl _) _)
  have HL0 := Lib.hid (hL.on HB0.out)
  have HX0 := Lib.hid (reBox x A c w 30)
  have HR0 := Lib.hid (h.on HB0.out)
  have HC := Lib.hid (show x.pcode 7 = (if 256 < x.body.length then 5 else 0) from rfl)
  have hz : (ofL x.body).size = x.body.length := ofL_size x.body
  clear h hL
  simp only [reV]
  by_cases h2 : 256 < x.body.length
  · have HD := Lib.hid (show x.pcode 7 = 5 by rw [HC.out, if_pos h2])
    have h20 : 256 < (ofL x.body).size := by omega
    clear hz h2
    go_enter Tryz.func60, Tryz.ntmps60
    go_wp2_with fail
    go_ret
    exact ⟨ret_nat (by rw [HD.out]; rfl), HB0.out⟩
  · have HD := Lib.hid (show x.pcode 7 = 0 by rw [HC.out, if_neg h2])
    have h20 : ¬ 256 < (ofL x.body).size := by omega
    clear hz h2
    go_enter Tryz.func60, Tryz.ntmps60
    go_wp2_with fail
    go_ret
    exact ⟨ret_nat (by rw [HD.out]; rfl), HB0.out⟩
theorem re_check_any (x : Re) (A : Option Addr) (c p : Nat) (hp : p < 8) (w : World) (h : ReOk w x A c) (hL : Len w) : Calls Tryz.prog 60 #[reV x A c, .int .i64 (p : Int)] w fun e w' => e = .returned (.int .i64 (x.pcode p : Int)) ∧ Below w.heap.size w w' := by
  rcases Re.lt8 hp with rfl | rfl | rfl | rfl | rfl | rfl | rfl | rfl
  · exact re_check_0 x A c w h hL
  · exact re_check_1 x A c w h hL
  · exact re_check_2 x A c w h hL
  · exact re_check_3 x A c w h hL
  · exact re_check_4 x A c w h hL
  · exact re_check_5 x A c w h hL
  · exact re_check_6 x A c w h hL
  · exact re_check_7 x A c w h hL
end Go.Proofs.YtnjlhafhgfpfiaaGreatDoor
end
