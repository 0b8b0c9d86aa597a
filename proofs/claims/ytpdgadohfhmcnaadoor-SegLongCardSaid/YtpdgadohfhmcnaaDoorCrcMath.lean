/-
  PLAIN ARITHMETIC of the sum of 32 bits: one bit's step as a function on natural numbers, that it is linear over xor, loses nothing below 2^32, and that four of its steps are one look into the table. No program is spoken of here.
-/
namespace Go.Proofs.YtpdgadohfhmcnaaDoor.Crc

def half (r : Nat) : Nat := if r % 2 = 1 then (r / 2) ^^^ 3988292384 else r / 2
def halves : Nat → Nat → Nat
  | 0, r => r
  | k + 1, r => halves k (half r)
def step (r b : Nat) : Nat := halves 8 (r ^^^ b)
def run (r : Nat) (l : List UInt8) : Nat := l.foldl (fun r b => step r b.toNat) r
def sum (l : List UInt8) : Nat := run 4294967295 l ^^^ 4294967295
def table : List Int := [0, 498536548, 997073096, 651767980, 1994146192, 1802195444, 1303535960, 1342533948, 3988292384, 4027552580, 3604390888, 3412177804, 2607071920, 2262029012, 2685067896, 3183342108]
def nib (r : Nat) : Nat := (r / 16) ^^^ (table.getD (r % 16) 0).toNat
def nibs : Nat → Nat → Nat
  | 0, r => r
  | k + 1, r => nibs k (nib r)

theorem xor_lt {a b : Nat} (ha : a < 4294967296) (hb : b < 4294967296) : a ^^^ b < 4294967296 := Nat.xor_lt_two_pow (n := 32) ha hb
theorem half_lt {r : Nat} (h : r < 4294967296) : half r < 4294967296 := by
  unfold half
  split
  · exact xor_lt (by omega) (by omega)
  · omega
theorem halves_lt (k : Nat) : ∀ {r : Nat}, r < 4294967296 → halves k r < 4294967296 := by
  induction k with
  | zero => intro r h; exact h
  | succ k ih => intro r h; exact ih (half_lt h)
theorem halves_succ (k r : Nat) : halves (k + 1) r = half (halves k r) := by
  induction k generalizing r with
  | zero => rfl
  | succ k ih => rw [halves, ih, halves]
theorem halves_add (j k r : Nat) : halves (j + k) r = halves k (halves j r) := by
  induction j generalizing r with
  | zero => simp [halves]
  | succ j ih => rw [show j + 1 + k = (j + k) + 1 from by omega, halves, ih, halves]
theorem xor_div2 (a b : Nat) : (a ^^^ b) / 2 = (a / 2) ^^^ (b / 2) := by
  have h := @Nat.shiftRight_xor_distrib 1 a b
  simpa [Nat.shiftRight_eq_div_pow] using h
theorem xor_mod2 (a b : Nat) : (a ^^^ b) % 2 = (a + b) % 2 := by
  have h := @Nat.xor_mod_two_eq_one a b
  by_cases hc : (a ^^^ b) % 2 = 1
  · have := h.1 hc
    omega
  · have : ¬ ¬ (a % 2 = 1 ↔ b % 2 = 1) := fun g => hc (h.2 g)
    omega
theorem xor_right (a b p : Nat) : (a ^^^ p) ^^^ (b ^^^ p) = a ^^^ b := by
  rw [Nat.xor_assoc, Nat.xor_comm b p, ← Nat.xor_assoc p p b, Nat.xor_self, Nat.zero_xor]
theorem half_xor (a b : Nat) : half (a ^^^ b) = half a ^^^ half b := by
  have h2 := xor_mod2 a b
  unfold half
  rw [xor_div2, h2]
  by_cases ha : a % 2 = 1 <;> by_cases hb : b % 2 = 1
  · rw [if_neg (by omega), if_pos ha, if_pos hb, xor_right]
  · rw [if_pos (by omega), if_pos ha, if_neg hb, Nat.xor_assoc, Nat.xor_comm (b / 2), ← Nat.xor_assoc]
  · rw [if_pos (by omega), if_neg ha, if_pos hb, Nat.xor_assoc]
  · rw [if_neg (by omega), if_neg ha, if_neg hb]
theorem halves_xor (k : Nat) : ∀ a b : Nat, halves k (a ^^^ b) = halves k a ^^^ halves k b := by
  induction k with
  | zero => intro a b; rfl
  | succ k ih => intro a b; rw [halves, half_xor, ih]; rfl
theorem half_zero : half 0 = 0 := by decide
theorem halves_zero (k : Nat) : halves k 0 = 0 := by
  induction k with
  | zero => rfl
  | succ k ih => rw [halves, half_zero, ih]
theorem eq_of_xor {a b : Nat} (h : a ^^^ b = 0) : a = b := by
  have : (a ^^^ b) ^^^ b = a := by rw [Nat.xor_assoc, Nat.xor_self, Nat.xor_zero]
  rw [h, Nat.zero_xor] at this
  exact this.symm
theorem half_eq_zero {r : Nat} (h : half r = 0) (hr : r < 4294967296) : r = 0 := by
  unfold half at h
  split at h
  · have := eq_of_xor h; omega
  · omega
theorem halves_eq_zero (k : Nat) : ∀ {r : Nat}, halves k r = 0 → r < 4294967296 → r = 0 := by
  induction k with
  | zero => intro r h _; exact h
  | succ k ih => intro r h hr; exact half_eq_zero (ih h (half_lt hr)) hr
theorem halves_inj (k : Nat) {a b : Nat} (ha : a < 4294967296) (hb : b < 4294967296) (h : halves k a = halves k b) : a = b := by
  apply eq_of_xor
  apply halves_eq_zero k _ (xor_lt ha hb)
  rw [halves_xor, h, Nat.xor_self]
theorem half_double (x : Nat) : half (2 * x) = x := by
  unfold half
  rw [if_neg (by omega)]
  omega
theorem halves_times (k x : Nat) : halves k (2 ^ k * x) = x := by
  induction k with
  | zero => simp [halves]
  | succ k ih => rw [halves, Nat.pow_succ, show 2 ^ k * 2 * x = 2 * (2 ^ k * x) from by rw [Nat.mul_comm (2 ^ k) 2, Nat.mul_assoc], half_double, ih]
theorem split16 (r : Nat) : r = (16 * (r / 16)) ^^^ (r % 16) := by
  have h := Nat.two_pow_add_eq_or_of_lt (i := 4) (b := r % 16) (Nat.mod_lt _ (by decide)) (r / 16)
  have h0 : 2 ^ 4 * (r / 16) ^^^ r % 16 = 2 ^ 4 * (r / 16) ||| r % 16 := by
    apply Nat.eq_of_testBit_eq
    intro j
    simp only [Nat.testBit_xor, Nat.testBit_or]
    by_cases hj : j < 4
    · have : (2 ^ 4 * (r / 16)).testBit j = false := by
        rw [Nat.testBit_two_pow_mul]; simp; omega
      simp [this]
    · have : (r % 16).testBit j = false := Nat.testBit_lt_two_pow (Nat.lt_of_lt_of_le (Nat.mod_lt _ (by decide)) (by have := Nat.pow_le_pow_right (n := 2) (by decide) (show 4 ≤ j by omega); simpa using this))
      simp [this]
  have e : r = 16 * (r / 16) + r % 16 := by omega
  calc r = 2 ^ 4 * (r / 16) + r % 16 := by omega
    _ = 2 ^ 4 * (r / 16) ||| r % 16 := h
    _ = 2 ^ 4 * (r / 16) ^^^ r % 16 := h0.symm
    _ = _ := rfl
theorem nib_low : ∀ l : Fin 16, halves 4 l.val = (table.getD l.val 0).toNat := by decide
theorem nib_eq (r : Nat) : nib r = halves 4 r := by
  have h : halves 4 r = halves 4 ((16 * (r / 16)) ^^^ (r % 16)) := by rw [← split16]
  rw [h, halves_xor, show 16 * (r / 16) = 2 ^ 4 * (r / 16) from rfl, halves_times]
  have := nib_low ⟨r % 16, Nat.mod_lt _ (by decide)⟩
  unfold nib
  rw [this]
theorem nibs_eq (r : Nat) : nibs 2 r = halves 8 r := by
  show nib (nib r) = halves (4 + 4) r
  rw [halves_add, nib_eq, nib_eq]
theorem step_lt {r b : Nat} (hr : r < 4294967296) (hb : b < 4294967296) : step r b < 4294967296 := halves_lt 8 (xor_lt hr hb)
theorem step_inj {r s b : Nat} (hr : r < 4294967296) (hs : s < 4294967296) (hb : b < 4294967296) (h : step r b = step s b) : r = s := by
  have := halves_inj 8 (xor_lt hr hb) (xor_lt hs hb) h
  apply eq_of_xor
  rw [← xor_right r s b, this, Nat.xor_self]
theorem step_byte {r a b : Nat} (hr : r < 4294967296) (ha : a < 4294967296) (hb : b < 4294967296) (h : step r a = step r b) : a = b := by
  have := halves_inj 8 (xor_lt hr ha) (xor_lt hr hb) h
  rw [Nat.xor_comm r a, Nat.xor_comm r b] at this
  apply eq_of_xor
  rw [← xor_right a b r, this, Nat.xor_self]
theorem step_eq_iff {r s b : Nat} (hr : r < 4294967296) (hs : s < 4294967296) (hb : b < 4294967296) : step r b = step s b ↔ r = s := ⟨step_inj hr hs hb, fun h => by rw [h]⟩
theorem byte_eq_iff {r a b : Nat} (hr : r < 4294967296) (ha : a < 4294967296) (hb : b < 4294967296) : step r a = step r b ↔ a = b := ⟨step_byte hr ha hb, fun h => by rw [h]⟩
theorem run_lt (l : List UInt8) : ∀ {r : Nat}, r < 4294967296 → run r l < 4294967296 := by
  induction l with
  | nil => intro r h; exact h
  | cons b l ih => intro r h; exact ih (step_lt h (by have := b.toNat_lt; omega))
theorem run_append (r : Nat) (l m : List UInt8) : run r (l ++ m) = run (run r l) m := by simp [run]
theorem run_cons (r : Nat) (b : UInt8) (l : List UInt8) : run r (b :: l) = run (step r b.toNat) l := rfl
theorem run_inj (l : List UInt8) : ∀ {r s : Nat}, r < 4294967296 → s < 4294967296 → run r l = run s l → r = s := by
  induction l with
  | nil => intro r s _ _ h; exact h
  | cons b l ih =>
    intro r s hr hs h
    have hb : b.toNat < 4294967296 := by have := b.toNat_lt; omega
    exact step_inj hr hs hb (ih (step_lt hr hb) (step_lt hs hb) h)
theorem sum_lt (l : List UInt8) : sum l < 4294967296 := xor_lt (run_lt l (by decide)) (by decide)
theorem sum_inj_run {l m : List UInt8} (h : sum l = sum m) : run 4294967295 l = run 4294967295 m := by
  unfold sum at h
  apply eq_of_xor
  rw [← xor_right _ _ 4294967295, h, Nat.xor_self]

/-- a step from two registers, under two bytes: how they part -/
theorem step_xor (r s a b : Nat) : step r a ^^^ step s b = halves 8 ((r ^^^ s) ^^^ (a ^^^ b)) := by
  unfold step
  rw [← halves_xor]
  congr 1
  rw [Nat.xor_assoc, Nat.xor_assoc, ← Nat.xor_assoc a s b, Nat.xor_comm a s, Nat.xor_assoc s a b]

/-- what parts behind a byte whose own part is t: back to what parted ahead of it -/
theorem back8 {D t E : Nat} (hD : D < 4294967296) (ht : t < 256) (hE : E < 16777216) (h : halves 8 (D ^^^ t) = E) : D = t ^^^ (256 * E) := by
  have h2 : halves 8 (D ^^^ t) = halves 8 (256 * E) := by rw [h, show 256 * E = 2 ^ 8 * E from rfl, halves_times]
  have h3 := halves_inj 8 (xor_lt hD (by omega)) (by omega) h2
  have : D = (D ^^^ t) ^^^ t := by rw [Nat.xor_assoc, Nat.xor_self, Nat.xor_zero]
  rw [this, h3, Nat.xor_comm]
theorem split256 (t E : Nat) (ht : t < 256) : t ^^^ (256 * E) = t + 256 * E := by
  have h := Nat.two_pow_add_eq_or_of_lt (i := 8) (b := t) (by simpa using ht) E
  have h0 : 2 ^ 8 * E ^^^ t = 2 ^ 8 * E ||| t := by
    apply Nat.eq_of_testBit_eq
    intro j
    simp only [Nat.testBit_xor, Nat.testBit_or]
    by_cases hj : j < 8
    · have : (2 ^ 8 * E).testBit j = false := by
        rw [Nat.testBit_two_pow_mul]; simp; omega
      simp [this]
    · have : t.testBit j = false := Nat.testBit_lt_two_pow (Nat.lt_of_lt_of_le ht (by have := Nat.pow_le_pow_right (n := 2) (by decide) (show 8 ≤ j by omega); simpa using this))
      simp [this]
  rw [Nat.xor_comm, show 256 * E = 2 ^ 8 * E from rfl, h0, ← h]
  omega

/-- FOUR BYTES IN A ROW, laid over by others that aren't all 0: the register behind them is another one. -/
theorem four (r : Nat) (a0 a1 a2 a3 b0 b1 b2 b3 : UInt8) (hr : r < 4294967296)
    (h : step (step (step (step r a0.toNat) a1.toNat) a2.toNat) a3.toNat = step (step (step (step r b0.toNat) b1.toNat) b2.toNat) b3.toNat) :
    a0 = b0 ∧ a1 = b1 ∧ a2 = b2 ∧ a3 = b3 := by
  have la := fun x : UInt8 => (show x.toNat < 4294967296 by have := x.toNat_lt; omega)
  have l8 := fun x y : UInt8 => (show x.toNat ^^^ y.toNat < 256 from Nat.xor_lt_two_pow (n := 8) x.toNat_lt y.toNat_lt)
  have eqb : ∀ x y : UInt8, x.toNat ^^^ y.toNat = 0 → x = y := fun x y hxy => UInt8.toNat_inj.1 (eq_of_xor hxy)
  have p0 := step_xor r r a0.toNat b0.toNat
  have p1 := step_xor (step r a0.toNat) (step r b0.toNat) a1.toNat b1.toNat
  have p2 := step_xor (step (step r a0.toNat) a1.toNat) (step (step r b0.toNat) b1.toNat) a2.toNat b2.toNat
  have p3 := step_xor (step (step (step r a0.toNat) a1.toNat) a2.toNat) (step (step (step r b0.toNat) b1.toNat) b2.toNat) a3.toNat b3.toNat
  have s0a := step_lt hr (la a0)
  have s0b := step_lt hr (la b0)
  have s1a := step_lt s0a (la a1)
  have s1b := step_lt s0b (la b1)
  have s2a := step_lt s1a (la a2)
  have s2b := step_lt s1b (la b2)
  rw [h, Nat.xor_self] at p3
  have d3 := back8 (xor_lt s2a s2b) (l8 a3 b3) (by decide) p3.symm
  simp only [Nat.mul_zero, Nat.xor_zero] at d3
  have h3 := l8 a3 b3
  have h2 := l8 a2 b2
  have h1 := l8 a1 b1
  have h0 := l8 a0 b0
  rw [d3] at p2
  have d2 := back8 (xor_lt s1a s1b) h2 (by omega) p2.symm
  rw [split256 _ _ h2] at d2
  rw [d2] at p1
  have d1 := back8 (xor_lt s0a s0b) h1 (by omega) p1.symm
  rw [split256 _ _ h1] at d1
  rw [d1, Nat.xor_self] at p0
  have d0 := back8 (by decide) h0 (by omega) p0.symm
  rw [split256 _ _ h0] at d0
  exact ⟨eqb _ _ (by omega), eqb _ _ (by omega), eqb _ _ (by omega), eqb _ _ (by omega)⟩

/-- A TEXT WITH FOUR BYTES IN A ROW TURNED HAS ANOTHER SUM. -/
theorem turned (l m : List UInt8) (a0 a1 a2 a3 b0 b1 b2 b3 : UInt8) (h : sum (l ++ a0 :: a1 :: a2 :: a3 :: m) = sum (l ++ b0 :: b1 :: b2 :: b3 :: m)) :
    a0 = b0 ∧ a1 = b1 ∧ a2 = b2 ∧ a3 = b3 := by
  have h1 := sum_inj_run h
  rw [run_append, run_append] at h1
  simp only [run_cons] at h1
  have hr := run_lt l (r := 4294967295) (by decide)
  have lt := fun {r : Nat} (hr : r < 4294967296) (x : UInt8) => step_lt hr (show x.toNat < 4294967296 by have := x.toNat_lt; omega)
  exact four _ _ _ _ _ _ _ _ _ hr (run_inj m (lt (lt (lt (lt hr _) _) _) _) (lt (lt (lt (lt hr _) _) _) _) h1)
theorem sum_ex : sum [49, 50, 51, 52, 53, 54, 55, 56, 57] = 3421780262 := by decide +kernel
theorem sum_nil : sum [] = 0 := by decide +kernel
end Go.Proofs.YtpdgadohfhmcnaaDoor.Crc
