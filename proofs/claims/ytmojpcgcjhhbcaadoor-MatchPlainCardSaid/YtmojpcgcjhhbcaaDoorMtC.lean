/-
  RULES; whether one may be: walked, the program's and the document's.
-/
import Derived.Test.YtmojpcgcjhhbcaaDoorMtB
import Derived.Deep.Upon
namespace Go.Proofs.YtmojpcgcjhhbcaaDoor
open Go.ChangeShapes Go.WideShapes Go.ChangeAt Go.RowKit

/-- a rule -/
structure Ru where
  sort : Nat
  key : List UInt8
  want : List Hd.Pr
  all : Bool
def ruV (r : Ru) (A : Option Addr) (c : Nat) : Value := .agg #[.int .u8 (r.sort : Int), .string (ofL r.key), .slice A r.want.length c, .bool r.all]
def ruL (r : Ru) (A : Option Addr) (c : Nat) : List Value := [.int .u8 (r.sort : Int), .string (ofL r.key), .slice A r.want.length c, .bool r.all]
/-- what is wrong with its key -/
def kcode (r : Ru) : Nat := if r.sort = 0 then Wrd.keyCode [] r.key else Wrd.keyCode wild r.key
/-- what is wrong with it -/
def ruCode (r : Ru) : Nat := if 3 < r.sort then 8 else if kcode r ≠ 0 then kcode r else Hd.hcode r.want
theorem ru_kind {r : Ru} (h : 3 < r.sort) : ruCode r = 8 := by unfold ruCode; rw [if_pos h]
theorem ru_key {r : Ru} (h : ¬ 3 < r.sort) (hk : kcode r ≠ 0) : ruCode r = kcode r := by unfold ruCode; rw [if_neg h, if_pos hk]
theorem ru_want {r : Ru} (h : ¬ 3 < r.sort) (hk : kcode r = 0) : ruCode r = Hd.hcode r.want := by unfold ruCode; rw [if_neg h, if_neg (by omega)]
/-- a rule's numbers are such that they can be walked -/
structure RuOk (w : World) (r : Ru) (A : Option Addr) (c : Nat) : Prop where
  key : r.key.length ≤ 90000
  len : r.want.length ≤ 100000
  cap : r.want.length ≤ c
  lite : Lite r.want
  row : Prs w A r.want
theorem RuOk.on {w w' : World} {r : Ru} {A : Option Addr} {c : Nat} (h : RuOk w r A c) (hb : Below w.heap.size w w') : RuOk w' r A c := ⟨h.key, h.len, h.cap, h.lite, h.row.on hb⟩
theorem ruBox (r : Ru) (A : Option Addr) (c : Nat) (w : World) (t : TypeId) : Cels (w.alloc (.cells #[.int .u8 (r.sort : Int), .string (ofL r.key), .slice A r.want.length c, .bool r.all] t)) w.heap.size (ruL r A c) := Cels.new w _ t
theorem checkKey_any (r : Ru) (A : Option Addr) (c : Nat) (w : World) (h : RuOk w r A c) (hL : Len w) :
    Calls Tryd.prog 54 #[ruV r A c] w fun e w' => e = .returned (.int .i64 (kcode r : Int)) ∧ Below w.heap.size w w' := by
  have HB0 := Lib.hid (show Below w.heap.size w (w.alloc (.cells #[.int .u8 (r.sort : Int), .string (ofL r.key), .slice A r.want.length c, .bool r.all] 48)) from (Below.refl _ _).alloc (Nat.le_refl _) _)
  have HL0 := Lib.hid (hL.on HB0.out)
  have hkl := h.key
  have HK := Lib.hid (fun W h => key_any r.key W (by omega) h)
  have HPT := Lib.hid (fun W h => pattern_any r.key W (by omega) h)
  have HC : Hid (kcode r = if r.sort = 0 then Wrd.keyCode [] r.key else Wrd.keyCode wild r.key) := rfl
  simp only [ruV]
  by_cases h0 : r.sort = 0
  · have HCC := Lib.hid (show kcode r = Wrd.keyCode [] r.key by rw [HC.out, if_pos h0])
    have hz : ((r.sort : Int) == 0) = true := by rw [h0]; rfl
    clear h0 h hL
    go_enter Tryd.func54, Tryd.ntmps54
    go_wp2_with fail
    refine (HK.out _ HL0.out).mono ?_
    rintro e w1 ⟨rfl, b1⟩
    have HB1 := Lib.hid (bthen HB0.out b1 (Nat.le_refl _))
    clear b1
    go_wp2_with fail
    go_ret
    exact ⟨ret_nat (by rw [HCC.out]), HB1.out⟩
  · have HCC := Lib.hid (show kcode r = Wrd.keyCode wild r.key by rw [HC.out, if_neg h0])
    have hz : ((r.sort : Int) == 0) = false := beq_eq_false_iff_ne.2 (by omega)
    clear h0 h hL
    go_enter Tryd.func54, Tryd.ntmps54
    go_wp2_with fail
    refine (HPT.out _ HL0.out).mono ?_
    rintro e w1 ⟨rfl, b1⟩
    have HB1 := Lib.hid (bthen HB0.out b1 (Nat.le_refl _))
    clear b1
    go_wp2_with fail
    go_ret
    exact ⟨ret_nat (by rw [HCC.out]), HB1.out⟩
theorem light10_any (r : Ru) (A : Option Addr) (c : Nat) (w : World) (hl : r.want.length ≤ 9223372036854775807) (hp : Prs w A r.want) :
    Calls Tryd.prog 26 #[ruV r A c] w fun e w' => e = .returned (.bool (decide (r.key.length ≤ 100) && lightB r.want)) ∧ Below w.heap.size w w' := by
  have HB0 := Lib.hid (show Below w.heap.size w (w.alloc (.cells #[.int .u8 (r.sort : Int), .string (ofL r.key), .slice A r.want.length c, .bool r.all] 48)) from (Below.refl _ _).alloc (Nat.le_refl _) _)
  have HP0 := Lib.hid (hp.on HB0.out)
  have HLI := Lib.hid (fun W h => light9_any r.want A c W hl h)
  have hks : (ofL r.key).size = r.key.length := ofL_size r.key
  generalize lightB r.want = L at *
  clear hp
  simp only [ruV]
  by_cases h0 : r.key.length ≤ 100
  · have hz : (ofL r.key).size ≤ 100 := by omega
    have hd : decide (r.key.length ≤ 100) = true := decide_eq_true h0
    rw [hd, Bool.true_and]
    clear hd h0
    go_enter Tryd.func26, Tryd.ntmps26
    go_wp2_with fail
    refine (HLI.out _ HP0.out).mono ?_
    rintro e w1 ⟨rfl, b1⟩
    have HB1 := Lib.hid (bthen HB0.out b1 (Nat.le_refl _))
    clear b1
    go_wp2_with fail
    go_ret
    exact ⟨rfl, HB1.out⟩
  · have hz : ¬ (ofL r.key).size ≤ 100 := by omega
    have hd : decide (r.key.length ≤ 100) = false := decide_eq_false h0
    rw [hd, Bool.false_and]
    clear hd h0
    go_enter Tryd.func26, Tryd.ntmps26
    go_wp2_with fail
    go_ret
    exact ⟨rfl, HB0.out⟩
set_option maxHeartbeats 2000000 in
theorem mCheck_any (r : Ru) (A : Option Addr) (c : Nat) (w : World) (h : RuOk w r A c) (hL : Len w) :
    Calls Tryd.prog 29 #[ruV r A c] w fun e w' => e = .returned (.int .i64 (ruCode r : Int)) ∧ Below w.heap.size w w' := by
  have HB0 := Lib.hid (show Below w.heap.size w (w.alloc (.cells #[.int .u8 (r.sort : Int), .string (ofL r.key), .slice A r.want.length c, .bool r.all] 48)) from (Below.refl _ _).alloc (Nat.le_refl _) _)
  have HX0 := Lib.hid (ruBox r A c w 48)
  have HL0 := Lib.hid (hL.on HB0.out)
  have HR0 := Lib.hid (h.on HB0.out)
  have HCK := Lib.hid (fun W h h' => checkKey_any r A c W h h')
  have HHC := Lib.hid (fun W h' => hCheck_any r.want A c W h.len h.cap h.lite h')
  have H1 := Lib.hid (fun g => ru_kind (r := r) g)
  have H2 := Lib.hid (fun g k => ru_key (r := r) g k)
  have H3 := Lib.hid (fun g k => ru_want (r := r) g k)
  clear h hL
  generalize ruCode r = C at *
  generalize kcode r = K at *
  generalize Hd.hcode r.want = H at *
  simp only [ruV] at HCK ⊢
  by_cases h3 : 3 < r.sort
  · have HC := Lib.hid (H1.out h3)
    have hz : decide ((3 : Int) < (r.sort : Int)) = true := decide_eq_true (by omega)
    clear h3
    go_enter Tryd.func29, Tryd.ntmps29
    go_wp2_with fail
    go_ret
    exact ⟨ret_nat (by rw [HC.out]; rfl), HB0.out⟩
  · have hz : decide ((3 : Int) < (r.sort : Int)) = false := decide_eq_false (by omega)
    by_cases hk : K = 0
    · have HC := Lib.hid (H3.out h3 hk)
      have hk0 := code_eq hk
      clear h3 hk
      go_enter Tryd.func29, Tryd.ntmps29
      go_wp2_with fail
      refine (HCK.out _ HR0.out HL0.out).mono ?_
      rintro e w1 ⟨rfl, b1⟩
      have HX1 := Lib.hid (HX0.out.on b1 (by simp))
      have HB1 := Lib.hid (bthen HB0.out b1 (Nat.le_refl _))
      have HR1 := Lib.hid (HR0.out.on b1)
      have hlt1 : w.heap.size < w1.heap.size := by have := b1.size; simp at this; omega
      clear b1
      have c2 := HX1.out 2 _ rfl
      go_wp2_with fail
      refine (HHC.out _ HR1.out.row).mono ?_
      rintro e w2 ⟨rfl, b2⟩
      have HB2 := Lib.hid (bthen HB1.out b2 (Nat.le_refl _))
      clear b2
      go_wp2_with fail
      go_ret
      exact ⟨ret_nat (by rw [HC.out]), HB2.out⟩
    · have HC := Lib.hid (H2.out h3 hk)
      have hk0 := code_ne hk
      clear h3 hk
      go_enter Tryd.func29, Tryd.ntmps29
      go_wp2_with fail
      refine (HCK.out _ HR0.out HL0.out).mono ?_
      rintro e w1 ⟨rfl, b1⟩
      have HB1 := Lib.hid (bthen HB0.out b1 (Nat.le_refl _))
      clear b1
      go_wp2_with fail
      go_ret
      exact ⟨ret_nat (by rw [HC.out]), HB1.out⟩
theorem kcode_ref (r : Ru) : Wrd.keyCode (wildIf (decide (0 < r.sort))) r.key = kcode r := by
  unfold kcode
  by_cases h : r.sort = 0
  · rw [if_pos h, decide_eq_false (by omega)]; rfl
  · rw [if_neg h, decide_eq_true (by omega)]; rfl
set_option maxHeartbeats 2000000 in
theorem rCheck10_any (r : Ru) (A : Option Addr) (c : Nat) (w : World) (h : RuOk w r A c) :
    Calls Tryd.prog 27 #[ruV r A c] w fun e w' => e = .returned (.int .i64 (ruCode r : Int)) ∧ Below w.heap.size w w' := by
  have HB0 := Lib.hid (show Below w.heap.size w (w.alloc (.cells #[.int .u8 (r.sort : Int), .string (ofL r.key), .slice A r.want.length c, .bool r.all] 51)) from (Below.refl _ _).alloc (Nat.le_refl _) _)
  have HX0 := Lib.hid (ruBox r A c w 51)
  have HR0 := Lib.hid (h.on HB0.out)
  have hck := fun W => rkey_any r.key (decide (0 < r.sort)) W (by have := h.key; omega)
  rw [kcode_ref] at hck
  have HCK := Lib.hid hck
  have HHC := Lib.hid (fun W h' => rCheck9_any r.want A c W h.len h.cap h.lite h')
  have H1 := Lib.hid (fun g => ru_kind (r := r) g)
  have H2 := Lib.hid (fun g k => ru_key (r := r) g k)
  have H3 := Lib.hid (fun g k => ru_want (r := r) g k)
  clear h hck
  generalize ruCode r = C at *
  generalize kcode r = K at *
  generalize Hd.hcode r.want = H at *
  simp only [ruV]
  by_cases h3 : 3 < r.sort
  · have HC := Lib.hid (H1.out h3)
    have hz : decide ((3 : Int) < (r.sort : Int)) = true := decide_eq_true (by omega)
    clear h3
    go_enter Tryd.func27, Tryd.ntmps27
    go_wp2_with fail
    go_ret
    exact ⟨ret_nat (by rw [HC.out]; rfl), HB0.out⟩
  · have hz : decide ((3 : Int) < (r.sort : Int)) = false := decide_eq_false (by omega)
    by_cases hk : K = 0
    · have HC := Lib.hid (H3.out h3 hk)
      have hk0 := code_eq hk
      clear h3 hk
      go_enter Tryd.func27, Tryd.ntmps27
      go_wp2_with fail
      refine (HCK.out _).mono ?_
      rintro e w1 ⟨rfl, b1⟩
      have HX1 := Lib.hid (HX0.out.on b1 (by simp))
      have HB1 := Lib.hid (bthen HB0.out b1 (Nat.le_refl _))
      have HR1 := Lib.hid (HR0.out.on b1)
      have hlt1 : w.heap.size < w1.heap.size := by have := b1.size; simp at this; omega
      clear b1
      have c2 := HX1.out 2 _ rfl
      go_wp2_with fail
      refine (HHC.out _ HR1.out.row).mono ?_
      rintro e w2 ⟨rfl, b2⟩
      have HB2 := Lib.hid (bthen HB1.out b2 (Nat.le_refl _))
      clear b2
      go_wp2_with fail
      go_ret
      exact ⟨ret_nat (by rw [HC.out]), HB2.out⟩
    · have HC := Lib.hid (H2.out h3 hk)
      have hk0 := code_ne hk
      clear h3 hk
      go_enter Tryd.func27, Tryd.ntmps27
      go_wp2_with fail
      refine (HCK.out _).mono ?_
      rintro e w1 ⟨rfl, b1⟩
      have HB1 := Lib.hid (bthen HB0.out b1 (Nat.le_refl _))
      clear b1
      go_wp2_with fail
      go_ret
      exact ⟨ret_nat (by rw [HC.out]), HB1.out⟩
end Go.Proofs.YtmojpcgcjhhbcaaDoor
