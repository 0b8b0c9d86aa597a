/-
  THE CHAPTER'S EXAMPLE, walked. THE CHAPTER's EXAMPLE; two heads held against each other: THE LAW HeadSame, walked. PLAIN ARITHMETIC of the sum of 32 bits: one bit's step as a function on natural numbers, that it is linear over xor, loses nothing below 2^32, and that four of its steps are one look into the table. No program is spoken of here.
-/
import Derived.Test.YtnjlhafhgfpfiaaGreatDoorRb21
import Derived.Test.YtnjlhafhgfpfiaaGreatDoorRb33

section
namespace Go.Proofs.YtnjlhafhgfpfiaaGreatDoor
open Go.ChangeShapes Go.WideShapes Go.ChangeAt Go.RowKit
def exP : List UInt8 := [97, 46, 42, 46, 35]
def exA : List UInt8 := [97, 46, 98]
def exB : List UInt8 := [97, 46, 98, 46, 99, 46, 100]
def exC : List UInt8 := [97]
def exN : List UInt8 := [97, 45, 49]
theorem ex_a : Wrd.matches' (Wrd.words exP) (Wrd.words exA) = true := by rw [← Wrd.row_all]; decide
theorem ex_b : Wrd.matches' (Wrd.words exP) (Wrd.words exB) = true := by rw [← Wrd.row_all]; decide
theorem ex_c : Wrd.matches' (Wrd.words exP) (Wrd.words exC) = false := by rw [← Wrd.row_all]; decide
theorem ex_n : Wrd.nameCode exN = 0 := by decide
theorem ex_a_at (w : World) (hL : Len w) : Calls Tryz.prog 89 #[.string ⟨#[97, 46, 42, 46, 35]⟩, .string ⟨#[97, 46, 98]⟩] w fun e w' => e = .returned (.bool true) ∧ Below w.heap.size w w' := by
  have h := matches_any exP exA w (by decide) (by decide) hL
  rw [ex_a] at h
  exact h
theorem ex_b_at (w : World) (hL : Len w) : Calls Tryz.prog 89 #[.string ⟨#[97, 46, 42, 46, 35]⟩, .string ⟨#[97, 46, 98, 46, 99, 46, 100]⟩] w fun e w' => e = .returned (.bool true) ∧ Below w.heap.size w w' := by
  have h := matches_any exP exB w (by decide) (by decide) hL
  rw [ex_b] at h
  exact h
theorem ex_c_at (w : World) (hL : Len w) : Calls Tryz.prog 89 #[.string ⟨#[97, 46, 42, 46, 35]⟩, .string ⟨#[97]⟩] w fun e w' => e = .returned (.bool false) ∧ Below w.heap.size w w' := by
  have h := matches_any exP exC w (by decide) (by decide) hL
  rw [ex_c] at h
  exact h
theorem ex_n_at (w : World) : Calls Tryz.prog 77 #[.string ⟨#[97, 45, 49]⟩] w fun e w' => e = .returned (.int .i64 0) ∧ w = w' := by
  have h := name_any exN w (by decide)
  rw [ex_n] at h
  exact h
set_option maxHeartbeats 1000000 in
theorem wawake_any (w : World) (hL : Len w) : Calls Tryz.prog 84 #[] w fun e w' => e = .returned (.bool true) ∧ Below w.heap.size w w' := by
  have HA := Lib.hid (ex_a_at w hL)
  have HL := Lib.hid hL
  clear hL
  go_enter Tryz.func84, Tryz.ntmps84
  go_wp2_with fail
  refine HA.out.mono ?_
  rintro e w1 ⟨rfl, hB1⟩
  have HL1 := Lib.hid (HL.out.on hB1)
  have HB1 := Lib.hid hB1
  clear hB1
  go_wp2_with fail
  refine (ex_b_at _ HL1.out).mono ?_
  rintro e w2 ⟨rfl, hB⟩
  have HL2 := Lib.hid (HL1.out.on hB)
  have HB2 := Lib.hid (HB1.out.trans (hB.mono HB1.out.size))
  clear hB
  go_wp2_with fail
  refine (ex_c_at _ HL2.out).mono ?_
  rintro e w3 ⟨rfl, hB⟩
  have HB3 := Lib.hid (HB2.out.trans (hB.mono HB2.out.size))
  clear hB
  go_wp2_with fail
  refine (ex_n_at _).mono ?_
  rintro e w' ⟨rfl, rfl⟩
  go_wp2_with fail
  go_ret
  exact ⟨rfl, HB3.out⟩
end Go.Proofs.YtnjlhafhgfpfiaaGreatDoor
end
section
namespace Go.Proofs.YtnjlhafhgfpfiaaGreatDoor
open Go.ChangeShapes Go.WideShapes Go.ChangeAt Go.RowKit
theorem law4Awake_any (w : World) (hL : Len w) : Calls Tryz.prog 67 #[] w fun e w' => e = .returned (.bool true) ∧ Below w.heap.size w w' := by
  have HA := Lib.hid (wawake_any w hL)
  go_enter Tryz.func67, Tryz.ntmps67
  go_wp2_with fail
  refine HA.out.mono ?_
  rintro x w1 ⟨rfl, b1⟩
  have B1 := Lib.hid b1
  clear b1
  go_wp2_with fail
  go_ret
  exact ⟨rfl, B1.out⟩
theorem lite_nil : Lite [] := fun i hi => absurd hi (by simp)
theorem hbytes_nil (w : World) : Calls Tryz.prog 63 #[.slice none 0 0] w fun e w' => e = .returned (.tuple #[.string ⟨#[0]⟩, .int .i64 0]) ∧ Below w.heap.size w w' := by
  have h := hbytes_any [] none 0 w (by simp) (by simp) lite_nil (Prs.nil _ _)
  rw [show hbytesV [] = .tuple #[.string ⟨#[0]⟩, .int .i64 0] from rfl] at h
  exact h
set_option maxHeartbeats 1000000 in
theorem awake9_any (w : World) (hL : Len w) : Calls Tryz.prog 40 #[] w fun e w' => e = .returned (.bool true) ∧ Below w.heap.size w w' := by
  have HL := Lib.hid hL
  clear hL
  have he : (({ data := #[0] } : ByteArray).toList == [0]) = true := by rw [ByteArray.toList_eq]; rfl
  go_enter Tryz.func40, Tryz.ntmps40
  go_wp2_with fail
  refine (hbytes_nil _).mono ?_
  rintro e w1 ⟨rfl, b1⟩
  have HL1 := Lib.hid (HL.out.on b1)
  have HB1 := Lib.hid b1
  clear b1
  go_wp2_with fail
  refine (octAwake2_any _).mono ?_
  rintro e w2 ⟨rfl, b2⟩
  have HL2 := Lib.hid (HL1.out.on b2)
  have HB2 := Lib.hid (bthen HB1.out b2 (Nat.le_refl _))
  clear b2
  go_wp2_with fail
  refine (law4Awake_any _ HL2.out).mono ?_
  rintro e w3 ⟨rfl, b3⟩
  have HB3 := Lib.hid (bthen HB2.out b3 (Nat.le_refl _))
  clear b3
  go_wp2_with fail
  go_ret
  exact ⟨rfl, HB3.out⟩
end Go.Proofs.YtnjlhafhgfpfiaaGreatDoor
end
section
namespace Go.Proofs.YtnjlhafhgfpfiaaGreatDoor.Crc
def half (r : Nat) : Nat := if r % 2 = 1 then (r / 2) ^^^ 3988292384 else r / 2
def halves : Nat → Nat → Nat
  | 0, r => r
  | k + 1, r => halves k (half r)
def step (r b : Nat) : Nat := halves 8 (r ^^^ b)
def run (r : Nat) (l : List UInt8) : Nat := l.foldl (fun r b => step r b.toNat) r
def sum (l : List UInt8) : Nat := run 4294967295 l ^^^ 4294967295
def table : List Int := [0, 498536548, 997073096, 651767980, 1994146192, 1802195444, 1303535960, 1342533948, 3988292384, 4027552580, 3604390888, 3412177804, 2607071920, 2262029012, 2685067896, 3183342108]
def nib (r : Nat) : Nat := (r / 16) ^^^ (table.getD (r % 16) 0).toNat
def nibs : Nat → Nat → Nat
  | 0, r => r
  | k + 1, r => nibs k (nib r)

theorem xor_lt {a b : Nat} (ha : a < 4294967296) (hb : b < 4294967296) : a ^^^ b < 4294967296 := Nat.xor_lt_two_pow (n := 32) ha hb
theorem half_lt {r : Nat} (h : r < 4294967296) : half r < 4294967296 := by
  unfold half
  split
  · exact xor_lt (by omega) (by omega)
  · omega
theorem halves_lt (k : Nat) : ∀ {r : Nat}, r < 4294967296 → halves k r < 4294967296 := by
  induction k with
  | zero => intro r h; exact h
  | succ k ih => intro r h; exact ih (half_lt h)
theorem halves_succ (k r : Nat) : halves (k + 1) r = half (halves k r) := by
  induction k generalizing r with
  | zero => rfl
  | succ k ih => rw [halves, ih, halves]
theorem halves_add (j k r : Nat) : halves (j + k) r = halves k (halves j r) := by
  induction j generalizing r with
  | zero => simp [halves]
  | succ j ih => rw [show j + 1 + k = (j + k) + 1 from by omega, halves, ih, halves]
theorem xor_div2 (a b : Nat) : (a ^^^ b) / 2 = (a / 2) ^^^ (b / 2) := by
  have h := @Nat.shiftRight_xor_distrib 1 a b
  simpa [Nat.shiftRight_eq_div_pow] using h
theorem xor_mod2 (a b : Nat) : (a ^^^ b) % 2 = (a + b) % 2 := by
  have h := @Nat.xor_mod_two_eq_one a b
  by_cases hc : (a ^^^ b) % 2 = 1
  · have := h.1 hc
    omega
  · have : ¬ ¬ (a % 2 = 1 ↔ b % 2 = 1) := fun g => hc (h.2 g)
    omega
theorem xor_right (a b p : Nat) : (a ^^^ p) ^^^ (b ^^^ p) = a ^^^ b := by
  rw [Nat.xor_assoc, Nat.xor_comm b p, ← Nat.xor_assoc p p b, Nat.xor_self, Nat.zero_xor]
theorem half_xor (a b : Nat) : half (a ^^^ b) = half a ^^^ half b := by
  have h2 := xor_mod2 a b
  unfold half
  rw [xor_div2, h2]
  by_cases ha : a % 2 = 1 <;> by_cases hb : b % 2 = 1
  · rw [if_neg (by omega), if_pos ha, if_pos hb, xor_right]
  · rw [if_pos (by omega), if_pos ha, if_neg hb, Nat.xor_assoc, Nat.xor_comm (b / 2), ← Nat.xor_assoc]
  · rw [if_pos (by omega), if_neg ha, if_pos hb, Nat.xor_assoc]
  · rw [if_neg (by omega), if_neg ha, if_neg hb]
theorem halves_xor (k : Nat) : ∀ a b : Nat, halves k (a ^^^ b) = halves k a ^^^ halves k b := by
  induction k with
  | zero => intro a b; rfl
  | succ k ih => intro a b; rw [halves, half_xor, ih]; rfl
theorem half_double (x : Nat) : half (2 * x) = x := by
  unfold half
  rw [if_neg (by omega)]
  omega
theorem halves_times (k x : Nat) : halves k (2 ^ k * x) = x := by
  induction k with
  | zero => simp [halves]
  | succ k ih => rw [halves, Nat.pow_succ, show 2 ^ k * 2 * x = 2 * (2 ^ k * x) from by rw [Nat.mul_comm (2 ^ k) 2, Nat.mul_assoc], half_double, ih]
theorem split16 (r : Nat) : r = (16 * (r / 16)) ^^^ (r % 16) := by
  have h := Nat.two_pow_add_eq_or_of_lt (i := 4) (b := r % 16) (Nat.mod_lt _ (by decide)) (r / 16)
  have h0 : 2 ^ 4 * (r / 16) ^^^ r % 16 = 2 ^ 4 * (r / 16) ||| r % 16 := by
    apply Nat.eq_of_testBit_eq
    intro j
    simp only [Nat.testBit_xor, Nat.testBit_or]
    by_cases hj : j < 4
    · have : (2 ^ 4 * (r / 16)).testBit j = false := by
        rw [Nat.testBit_two_pow_mul]; simp; omega
      simp [this]
    · have : (r % 16).testBit j = false := Nat.testBit_lt_two_pow (Nat.lt_of_lt_of_le (Nat.mod_lt _ (by decide)) (by have := Nat.pow_le_pow_right (n := 2) (by decide) (show 4 ≤ j by omega); simpa using this))
      simp [this]
  have e : r = 16 * (r / 16) + r % 16 := by omega
  calc r = 2 ^ 4 * (r / 16) + r % 16 := by omega
    _ = 2 ^ 4 * (r / 16) ||| r % 16 := h
    _ = 2 ^ 4 * (r / 16) ^^^ r % 16 := h0.symm
    _ = _ := rfl
theorem nib_low : ∀ l : Fin 16, halves 4 l.val = (table.getD l.val 0).toNat := by decide
theorem nib_eq (r : Nat) : nib r = halves 4 r := by
  have h : halves 4 r = halves 4 ((16 * (r / 16)) ^^^ (r % 16)) := by rw [← split16]
  rw [h, halves_xor, show 16 * (r / 16) = 2 ^ 4 * (r / 16) from rfl, halves_times]
  have := nib_low ⟨r % 16, Nat.mod_lt _ (by decide)⟩
  unfold nib
  rw [this]
theorem nibs_eq (r : Nat) : nibs 2 r = halves 8 r := by
  show nib (nib r) = halves (4 + 4) r
  rw [halves_add, nib_eq, nib_eq]
theorem step_lt {r b : Nat} (hr : r < 4294967296) (hb : b < 4294967296) : step r b < 4294967296 := halves_lt 8 (xor_lt hr hb)
theorem run_lt (l : List UInt8) : ∀ {r : Nat}, r < 4294967296 → run r l < 4294967296 := by
  induction l with
  | nil => intro r h; exact h
  | cons b l ih => intro r h; exact ih (step_lt h (by have := b.toNat_lt; omega))
theorem run_append (r : Nat) (l m : List UInt8) : run r (l ++ m) = run (run r l) m := by simp [run]
theorem sum_lt (l : List UInt8) : sum l < 4294967296 := xor_lt (run_lt l (by decide)) (by decide)
theorem sum_ex : sum [49, 50, 51, 52, 53, 54, 55, 56, 57] = 3421780262 := by decide +kernel
end Go.Proofs.YtnjlhafhgfpfiaaGreatDoor.Crc
end
