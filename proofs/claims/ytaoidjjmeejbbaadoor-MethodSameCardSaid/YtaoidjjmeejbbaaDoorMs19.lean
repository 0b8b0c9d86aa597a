/-
  RULES; whether one may be: walked, the program's and the document's.
-/
import Derived.Test.YtaoidjjmeejbbaaDoorMs18
import Derived.Deep.Upon
section
namespace Go.Proofs.YtaoidjjmeejbbaaDoor
open Go.ChangeShapes Go.WideShapes Go.ChangeAt Go.RowKit
/-- a rule -/
structure Ru where
  sort : Nat
  key : List UInt8
  want : List Hd.Pr
  all : Bool
def ruV (r : Ru) (A : Option Addr) (c : Nat) : Value := .agg #[.int .u8 (r.sort : Int), .string (ofL r.key), .slice A r.want.length c, .bool r.all]
def ruL (r : Ru) (A : Option Addr) (c : Nat) : List Value := [.int .u8 (r.sort : Int), .string (ofL r.key), .slice A r.want.length c, .bool r.all]
/-- what is wrong with its key -/
def kcode (r : Ru) : Nat := if r.sort = 0 then Wrd.keyCode [] r.key else Wrd.keyCode wild r.key
/-- what is wrong with it -/
def ruCode (r : Ru) : Nat := if 3 < r.sort then 8 else if kcode r ≠ 0 then kcode r else Hd.hcode r.want
theorem ru_kind {r : Ru} (h : 3 < r.sort) : ruCode r = 8 := by unfold ruCode; rw [if_pos h]
theorem ru_key {r : Ru} (h : ¬ 3 < r.sort) (hk : kcode r ≠ 0) : ruCode r = kcode r := by unfold ruCode; rw [if_neg h, if_pos hk]
theorem ru_want {r : Ru} (h : ¬ 3 < r.sort) (hk : kcode r = 0) : ruCode r = Hd.hcode r.want := by unfold ruCode; rw [if_neg h, if_neg (by omega)]
/-- a rule's numbers are such that they can be walked -/
structure RuOk (w : World) (r : Ru) (A : Option Addr) (c : Nat) : Prop where
  key : r.key.length ≤ 90000
  len : r.want.length ≤ 100000
  cap : r.want.length ≤ c
  lite : Lite r.want
  row : Prs w A r.want
theorem RuOk.on {w w' : World} {r : Ru} {A : Option Addr} {c : Nat} (h : RuOk w r A c) (hb : Below w.heap.size w w') : RuOk w' r A c := ⟨h.key, h.len, h.cap, h.lite, h.row.on hb⟩
theorem ruBox (r : Ru) (A : Option Addr) (c : Nat) (w : World) (t : TypeId) : Cels (w.alloc (.cells #[.int .u8 (r.sort : Int), .string (ofL r.key), .slice A r.want.length c, .bool r.all] t)) w.heap.size (ruL r A c) := Cels.new w _ t
theorem checkKey_any (r : Ru) (A : Option Addr) (c : Nat) (w : World) (h : RuOk w r A c) (hL : Len w) :
    Calls Tryd.prog 114 #[ruV r A c] w fun e w' => e = .returned (.int .i64 (kcode r : Int)) ∧ Below w.heap.size w w' := by
  have HB0 := Lib.hid (show Below w.heap.size w (w.alloc (.cells #[.int .u8 (r.sort : Int), .string (ofL r.key), .slice A r.want.length c, .bool r.all] 29)) from (Below.refl _ _).alloc (Nat.le_refl _) _)
  have HL0 := Lib.hid (hL.on HB0.out)
  have hkl := h.key
  have HK := Lib.hid (fun W h => key_any r.key W (by omega) h)
  have HPT := Lib.hid (fun W h => pattern_any r.key W (by omega) h)
  have HC : Hid (kcode r = if r.sort = 0 then Wrd.keyCode [] r.key else Wrd.keyCode wild r.key) := rfl
  simp only [ruV]
  by_cases h0 : r.sort = 0
  · have HCC := Lib.hid (show kcode r = Wrd.keyCode [] r.key by rw [HC.out, if_pos h0])
    have hz : ((r.sort : Int) == 0) = true := by rw [h0]; rfl
    clear h0 h hL
    go_enter Tryd.func114, Tryd.ntmps114
    go_wp2_with fail
    refine (HK.out _ HL0.out).mono ?_
    rintro e w1 ⟨rfl, b1⟩
    have HB1 := Lib.hid (bthen HB0.out b1 (Nat.le_refl _))
    clear b1
    go_wp2_with fail
    go_ret
    exact ⟨ret_nat (by rw [HCC.out]), HB1.out⟩
  · have HCC := Lib.hid (show kcode r = Wrd.keyCode wild r.key by rw [HC.out, if_neg h0])
    have hz : ((r.sort : Int) == 0) = false := beq_eq_false_iff_ne.2 (by omega)
    clear h0 h hL
    go_enter Tryd.func114, Tryd.ntmps114
    go_wp2_with fail
    refine (HPT.out _ HL0.out).mono ?_
    rintro e w1 ⟨rfl, b1⟩
    have HB1 := Lib.hid (bthen HB0.out b1 (Nat.le_refl _))
    clear b1
    go_wp2_with fail
    go_ret
    exact ⟨ret_nat (by rw [HCC.out]), HB1.out⟩
set_option maxHeartbeats 2000000 in
theorem mCheck_any (r : Ru) (A : Option Addr) (c : Nat) (w : World) (h : RuOk w r A c) (hL : Len w) :
    Calls Tryd.prog 94 #[ruV r A c] w fun e w' => e = .returned (.int .i64 (ruCode r : Int)) ∧ Below w.heap.size w w' := by
  have HB0 := Lib.hid (show Below w.heap.size w (w.alloc (.cells #[.int .u8 (r.sort : Int), .string (ofL r.key), .slice A r.want.length c, .bool r.all] 29)) from (Below.refl _ _).alloc (Nat.le_refl _) _)
  have HX0 := Lib.hid (ruBox r A c w 29)
  have HL0 := Lib.hid (hL.on HB0.out)
  have HR0 := Lib.hid (h.on HB0.out)
  have HCK := Lib.hid (fun W h h' => checkKey_any r A c W h h')
  have HHC := Lib.hid (fun W h' => hCheck_any r.want A c W h.len h.cap h.lite h')
  have H1 := Lib.hid (fun g => ru_kind (r := r) g)
  have H2 := Lib.hid (fun g k => ru_key (r := r) g k)
  have H3 := Lib.hid (fun g k => ru_want (r := r) g k)
  clear h hL
  generalize ruCode r = C at *
  generalize kcode r = K at *
  generalize Hd.hcode r.want = H at *
  simp only [ruV] at HCK ⊢
  by_cases h3 : 3 < r.sort
  · have HC := Lib.hid (H1.out h3)
    have hz : decide ((3 : Int) < (r.sort : Int)) = true := decide_eq_true (by omega)
    clear h3
    go_enter Tryd.func94, Tryd.ntmps94
    go_wp2_with fail
    go_ret
    exact ⟨ret_nat (by rw [HC.out]; rfl), HB0.out⟩
  · have hz : decide ((3 : Int) < (r.sort : Int)) = false := decide_eq_false (by omega)
    by_cases hk : K = 0
    · have HC := Lib.hid (H3.out h3 hk)
      have hk0 := code_eq hk
      clear h3 hk
      go_enter Tryd.func94, Tryd.ntmps94
      go_wp2_with fail
      refine (HCK.out _ HR0.out HL0.out).mono ?_
      rintro e w1 ⟨rfl, b1⟩
      have HX1 := Lib.hid (HX0.out.on b1 (by simp))
      have HB1 := Lib.hid (bthen HB0.out b1 (Nat.le_refl _))
      have HR1 := Lib.hid (HR0.out.on b1)
      have hlt1 : w.heap.size < w1.heap.size := by have := b1.size; simp at this; omega
      clear b1
      have c2 := HX1.out 2 _ rfl
      go_wp2_with fail
      refine (HHC.out _ HR1.out.row).mono ?_
      rintro e w2 ⟨rfl, b2⟩
      have HB2 := Lib.hid (bthen HB1.out b2 (Nat.le_refl _))
      clear b2
      go_wp2_with fail
      go_ret
      exact ⟨ret_nat (by rw [HC.out]), HB2.out⟩
    · have HC := Lib.hid (H2.out h3 hk)
      have hk0 := code_ne hk
      clear h3 hk
      go_enter Tryd.func94, Tryd.ntmps94
      go_wp2_with fail
      refine (HCK.out _ HR0.out HL0.out).mono ?_
      rintro e w1 ⟨rfl, b1⟩
      have HB1 := Lib.hid (bthen HB0.out b1 (Nat.le_refl _))
      clear b1
      go_wp2_with fail
      go_ret
      exact ⟨ret_nat (by rw [HC.out]), HB1.out⟩
end Go.Proofs.YtaoidjjmeejbbaaDoor
end
