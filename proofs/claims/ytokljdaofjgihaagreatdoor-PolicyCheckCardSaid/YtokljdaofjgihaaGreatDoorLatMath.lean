/-
  PLAIN: labels that stand under one another; numbers, and labels, at the front of a text. No program is spoken of here.
-/
namespace Go.Proofs.YtokljdaofjgihaaGreatDoor.Lat

/-! ### sets of compartments -/
/-- is each of the one's compartments the other's? -/
def sub (a b : Nat) : Bool := (List.range 32).all fun i => !a.testBit i || b.testBit i
/-- does a label stand under another one? -/
def under (al sa bl sb : Nat) : Bool := decide (al ≤ bl) && sub sa sb

theorem sub_iff {a b : Nat} : sub a b = true ↔ ∀ i, i < 32 → a.testBit i = true → b.testBit i = true := by
  unfold sub
  rw [List.all_eq_true]
  constructor
  · intro h i hi ha
    have := h i (List.mem_range.2 hi)
    simp only [ha, Bool.not_true, Bool.false_or] at this
    exact this
  · intro h i hi
    have := h i (List.mem_range.1 hi)
    cases ha : a.testBit i <;> simp_all
theorem high {a : Nat} (h : a < 4294967296) (i : Nat) (hi : 32 ≤ i) : a.testBit i = false :=
  Nat.testBit_lt_two_pow (Nat.lt_of_lt_of_le h (show 2 ^ 32 ≤ 2 ^ i from Nat.pow_le_pow_right (by decide) hi))
theorem not_bit {b : Nat} (h : b < 4294967296) (i : Nat) : (4294967295 - b).testBit i = (decide (i < 32) && !b.testBit i) := by
  have := Nat.testBit_two_pow_sub_succ (n := 32) h i
  have e : 2 ^ 32 - (b + 1) = 4294967295 - b := by omega
  rw [e] at this
  exact this
theorem sub_andNot {a b : Nat} (ha : a < 4294967296) (hb : b < 4294967296) : (a &&& (4294967295 - b) = 0) ↔ sub a b = true := by
  rw [sub_iff]
  constructor
  · intro h i hi hA
    have := congrArg (fun n => Nat.testBit n i) h
    simp only [Nat.testBit_and, not_bit hb, Nat.zero_testBit, hA, Bool.true_and, hi, decide_true] at this
    cases hB : b.testBit i <;> simp_all
  · intro h
    apply Nat.eq_of_testBit_eq
    intro i
    simp only [Nat.testBit_and, not_bit hb, Nat.zero_testBit]
    by_cases hi : i < 32
    · have := h i hi
      cases hA : a.testBit i
      · rfl
      · rw [this hA]; simp
    · rw [high ha i (by omega)]; rfl
theorem sub_refl (a : Nat) : sub a a = true := sub_iff.2 fun _ _ h => h
theorem sub_trans {a b c : Nat} (h1 : sub a b = true) (h2 : sub b c = true) : sub a c = true :=
  sub_iff.2 fun i hi h => sub_iff.1 h2 i hi (sub_iff.1 h1 i hi h)
theorem sub_antisymm {a b : Nat} (ha : a < 4294967296) (hb : b < 4294967296) (h1 : sub a b = true) (h2 : sub b a = true) : a = b := by
  apply Nat.eq_of_testBit_eq
  intro i
  by_cases hi : i < 32
  · have p := sub_iff.1 h1 i hi
    have q := sub_iff.1 h2 i hi
    cases hA : a.testBit i <;> cases hB : b.testBit i <;> simp_all
  · rw [high ha i (by omega), high hb i (by omega)]
theorem sub_or (a b c : Nat) : sub (a ||| b) c = (sub a c && sub b c) := by
  rw [Bool.eq_iff_iff, Bool.and_eq_true, sub_iff, sub_iff, sub_iff]
  simp only [Nat.testBit_or, Bool.or_eq_true]
  exact ⟨fun h => ⟨fun i hi x => h i hi (Or.inl x), fun i hi x => h i hi (Or.inr x)⟩, fun h i hi x => x.elim (h.1 i hi) (h.2 i hi)⟩
theorem sub_and (a b c : Nat) : sub c (a &&& b) = (sub c a && sub c b) := by
  rw [Bool.eq_iff_iff, Bool.and_eq_true, sub_iff, sub_iff, sub_iff]
  simp only [Nat.testBit_and, Bool.and_eq_true]
  exact ⟨fun h => ⟨fun i hi x => (h i hi x).1, fun i hi x => (h i hi x).2⟩, fun h i hi x => ⟨h.1 i hi x, h.2 i hi x⟩⟩
theorem under_refl (al sa : Nat) : under al sa al sa = true := by simp [under, sub_refl]
theorem under_trans {al sa bl sb cl sc : Nat} (h1 : under al sa bl sb = true) (h2 : under bl sb cl sc = true) : under al sa cl sc = true := by
  simp only [under, Bool.and_eq_true, decide_eq_true_eq] at *
  exact ⟨by omega, sub_trans h1.2 h2.2⟩
theorem under_antisymm {al sa bl sb : Nat} (ha : sa < 4294967296) (hb : sb < 4294967296) (h1 : under al sa bl sb = true) (h2 : under bl sb al sa = true) : al = bl ∧ sa = sb := by
  simp only [under, Bool.and_eq_true, decide_eq_true_eq] at *
  exact ⟨by omega, sub_antisymm ha hb h1.2 h2.2⟩
theorem under_join (al sa bl sb cl sc : Nat) : under (max al bl) (sa ||| sb) cl sc = (under al sa cl sc && under bl sb cl sc) := by
  unfold under
  rw [sub_or]
  have : decide (max al bl ≤ cl) = (decide (al ≤ cl) && decide (bl ≤ cl)) := by
    rw [Bool.eq_iff_iff]; simp only [Bool.and_eq_true, decide_eq_true_eq]; omega
  rw [this]
  cases decide (al ≤ cl) <;> cases decide (bl ≤ cl) <;> cases sub sa sc <;> cases sub sb sc <;> rfl
theorem under_meet (al sa bl sb cl sc : Nat) : under cl sc (min al bl) (sa &&& sb) = (under cl sc al sa && under cl sc bl sb) := by
  unfold under
  rw [sub_and]
  have : decide (cl ≤ min al bl) = (decide (cl ≤ al) && decide (cl ≤ bl)) := by
    rw [Bool.eq_iff_iff]; simp only [Bool.and_eq_true, decide_eq_true_eq]; omega
  rw [this]
  cases decide (cl ≤ al) <;> cases decide (cl ≤ bl) <;> cases sub sc sa <;> cases sub sc sb <;> rfl
theorem join_meet (sa sb : Nat) : sa ||| (sa &&& sb) = sa := by
  apply Nat.eq_of_testBit_eq; intro i
  simp only [Nat.testBit_or, Nat.testBit_and]
  cases sa.testBit i <;> cases sb.testBit i <;> rfl
theorem meet_join (sa sb : Nat) : sa &&& (sa ||| sb) = sa := by
  apply Nat.eq_of_testBit_eq; intro i
  simp only [Nat.testBit_or, Nat.testBit_and]
  cases sa.testBit i <;> cases sb.testBit i <;> rfl
theorem or_lt {a b : Nat} (ha : a < 4294967296) (hb : b < 4294967296) : a ||| b < 4294967296 := Nat.or_lt_two_pow (n := 32) ha hb
theorem and_lt {a : Nat} (b : Nat) (ha : a < 4294967296) : a &&& b < 4294967296 := Nat.lt_of_le_of_lt Nat.and_le_left ha

/-! ### numbers at the front of a text -/
def dig (b : UInt8) : Bool := decide (48 ≤ b.toNat) && decide (b.toNat ≤ 57)
def val (l : List UInt8) : Nat := l.foldl (fun n b => 10 * n + (b.toNat - 48)) 0
def digs (l : List UInt8) : List UInt8 := l.takeWhile dig
theorem val_snoc (l : List UInt8) (b : UInt8) : val (l ++ [b]) = 10 * val l + (b.toNat - 48) := by simp [val, List.foldl_append]
theorem digs_le (l : List UInt8) : (digs l).length ≤ l.length := by
  unfold digs; exact (List.takeWhile_prefix dig).length_le
theorem take_digs (l : List UInt8) : l.take (digs l).length = digs l :=
  (List.prefix_iff_eq_take.1 (List.takeWhile_prefix dig)).symm
theorem dig_at (l : List UInt8) : ∀ (k : Nat) (h : k < l.length), k < (digs l).length → dig l[k] = true := by
  induction l with
  | nil => intro k h; simp at h
  | cons b l ih =>
    intro k h hk
    unfold digs at hk ih
    by_cases hb : dig b = true
    · rw [List.takeWhile_cons_of_pos hb] at hk
      cases k with
      | zero => exact hb
      | succ k => exact ih k (by simpa using h) (by simpa using hk)
    · rw [List.takeWhile_cons_of_neg hb] at hk
      simp at hk
theorem dig_not (l : List UInt8) : ∀ (h : (digs l).length < l.length), dig l[(digs l).length] = false := by
  induction l with
  | nil => intro h; simp at h
  | cons b l ih =>
    intro h
    by_cases hb : dig b = true
    · have e : digs (b :: l) = b :: digs l := by unfold digs; rw [List.takeWhile_cons_of_pos hb]
      have h' : (digs l).length < l.length := by rw [e] at h; simpa using h
      have := ih h'
      simp only [e, List.length_cons, List.getElem_cons_succ]
      exact this
    · have e : digs (b :: l) = [] := by unfold digs; rw [List.takeWhile_cons_of_neg hb]
      simp only [e, List.length_nil, List.getElem_cons_zero]
      simpa using hb
/-- the number of at most so much at the front: it, what stands behind it, the error -/
def num (most : Nat) (l : List UInt8) : Nat × List UInt8 × Nat :=
  if l.length = 0 then (0, [], 3)
  else if (digs l).length = 0 then (0, [], 4)
  else if 1 < (digs l).length ∧ l.head? = some 48 then (0, [], 4)
  else if most < val (digs l) then (0, [], 7)
  else (val (digs l), l.drop (digs l).length, 0)
theorem num_short {most : Nat} {l : List UInt8} (h : l.length = 0) : num most l = (0, [], 3) := by unfold num; rw [if_pos h]
theorem num_form {most : Nat} {l : List UInt8} (h : l.length ≠ 0) (h1 : (digs l).length = 0) : num most l = (0, [], 4) := by
  unfold num; rw [if_neg h, if_pos h1]
theorem num_nought {most : Nat} {l : List UInt8} (h1 : 1 < (digs l).length) (h2 : l.head? = some 48) : num most l = (0, [], 4) := by
  have := digs_le l
  unfold num; rw [if_neg (by omega), if_neg (by omega), if_pos ⟨h1, h2⟩]
theorem num_range {most : Nat} {l : List UInt8} (h1 : (digs l).length ≠ 0) (h2 : ¬ (1 < (digs l).length ∧ l.head? = some 48)) (h3 : most < val (digs l)) : num most l = (0, [], 7) := by
  have := digs_le l
  unfold num; rw [if_neg (by omega), if_neg h1, if_neg h2, if_pos h3]
theorem num_ok {most : Nat} {l : List UInt8} (h1 : (digs l).length ≠ 0) (h2 : ¬ (1 < (digs l).length ∧ l.head? = some 48)) (h3 : ¬ most < val (digs l)) :
    num most l = (val (digs l), l.drop (digs l).length, 0) := by
  have := digs_le l
  unfold num; rw [if_neg (by omega), if_neg h1, if_neg h2, if_neg h3]
theorem num_cases (most : Nat) (l : List UInt8) : (num most l).2.2 ≠ 0 ∧ (num most l).1 = 0 ∧ (num most l).2.1 = [] ∨ (num most l).2.2 = 0 ∧ (num most l).1 ≤ most ∧ (num most l).2.1.length < l.length := by
  have hd := digs_le l
  unfold num
  by_cases h : l.length = 0
  · rw [if_pos h]; exact Or.inl ⟨by decide, rfl, rfl⟩
  · rw [if_neg h]
    by_cases h1 : (digs l).length = 0
    · rw [if_pos h1]; exact Or.inl ⟨by decide, rfl, rfl⟩
    · rw [if_neg h1]
      by_cases h2 : 1 < (digs l).length ∧ l.head? = some 48
      · rw [if_pos h2]; exact Or.inl ⟨by decide, rfl, rfl⟩
      · rw [if_neg h2]
        by_cases h3 : most < val (digs l)
        · rw [if_pos h3]; exact Or.inl ⟨by decide, rfl, rfl⟩
        · rw [if_neg h3]; exact Or.inr ⟨rfl, by show val (digs l) ≤ most; omega, by show (l.drop _).length < _; rw [List.length_drop]; omega⟩
theorem num_len (most : Nat) (l : List UInt8) : (num most l).2.1.length ≤ l.length := by
  rcases num_cases most l with h | h
  · rw [h.2.2]; simp
  · omega
theorem num_le (most : Nat) (l : List UInt8) : (num most l).1 ≤ most := by
  rcases num_cases most l with h | h
  · omega
  · exact h.2.1
theorem num_code (most : Nat) (l : List UInt8) : (num most l).2.2 ≤ 7 := by
  unfold num
  repeat' split
  all_goals simp

/-! ### a label's text -/
/-- the compartments behind a level, of a set so far: the set, the error -/
def set : Nat → Nat → List UInt8 → Nat × Nat
  | _, st, [] => (st, 0)
  | 0, _, _ :: _ => (0, 4)
  | f + 1, st, b :: l =>
    if b ≠ 58 then (0, 4)
    else if (num 31 l).2.2 ≠ 0 then (0, (num 31 l).2.2)
    else if st / 2 ^ (num 31 l).1 ≠ 0 then (0, 4)
    else set f (st + 2 ^ (num 31 l).1) (num 31 l).2.1
theorem set_nil (f st : Nat) : set f st [] = (st, 0) := by cases f <;> rfl
theorem set_colon {f st : Nat} {b : UInt8} {l : List UInt8} (h : b ≠ 58) : set f st (b :: l) = (0, 4) := by
  cases f with
  | zero => rfl
  | succ f => simp only [set]; rw [if_pos h]
theorem set_num {f st : Nat} {l : List UInt8} (h : (num 31 l).2.2 ≠ 0) : set (f + 1) st (58 :: l) = (0, (num 31 l).2.2) := by
  simp only [set]; rw [if_neg (by decide), if_pos h]
theorem set_there {f st : Nat} {l : List UInt8} (h : (num 31 l).2.2 = 0) (h1 : st / 2 ^ (num 31 l).1 ≠ 0) : set (f + 1) st (58 :: l) = (0, 4) := by
  simp only [set]; rw [if_neg (by decide), if_neg (by omega), if_pos h1]
theorem set_next {f st : Nat} {l : List UInt8} (h : (num 31 l).2.2 = 0) (h1 : st / 2 ^ (num 31 l).1 = 0) : set (f + 1) st (58 :: l) = set f (st + 2 ^ (num 31 l).1) (num 31 l).2.1 := by
  simp only [set]; rw [if_neg (by decide), if_neg (by omega), if_neg (by omega)]
theorem set_lt : ∀ (f st : Nat) (l : List UInt8), st < 4294967296 → (set f st l).1 < 4294967296 ∧ (set f st l).2 ≤ 7 := by
  intro f
  induction f with
  | zero =>
    intro st l hs
    cases l with
    | nil => exact ⟨hs, by show 0 ≤ 7; omega⟩
    | cons b l => exact ⟨by show 0 < _; omega, by show 4 ≤ 7; omega⟩
  | succ f ih =>
    intro st l hs
    cases l with
    | nil => exact ⟨hs, by show 0 ≤ 7; omega⟩
    | cons b l =>
      by_cases hb : b = 58
      · subst hb
        by_cases h : (num 31 l).2.2 = 0
        · by_cases h1 : st / 2 ^ (num 31 l).1 = 0
          · rw [set_next h h1]
            apply ih
            have hle := num_le 31 l
            have hp : 0 < 2 ^ (num 31 l).1 := Nat.two_pow_pos _
            have hst : st < 2 ^ (num 31 l).1 := by
              rcases Nat.div_eq_zero_iff.1 h1 with h | h
              · omega
              · exact h
            have h32 : 2 ^ (num 31 l).1 ≤ 2 ^ 31 := Nat.pow_le_pow_right (by decide) hle
            omega
          · rw [set_there h h1]; exact ⟨by show 0 < _; omega, by show 4 ≤ 7; omega⟩
        · rw [set_num h]; exact ⟨by show 0 < _; omega, num_code _ _⟩
      · rw [set_colon hb]; exact ⟨by show 0 < _; omega, by show 4 ≤ 7; omega⟩
/-- the label of a text: its level, its set, the error -/
def parse (l : List UInt8) : Nat × Nat × Nat :=
  if (num 15 l).2.2 ≠ 0 then (0, 0, (num 15 l).2.2)
  else if (set l.length 0 (num 15 l).2.1).2 ≠ 0 then (0, 0, (set l.length 0 (num 15 l).2.1).2)
  else ((num 15 l).1, (set l.length 0 (num 15 l).2.1).1, 0)
end Go.Proofs.YtokljdaofjgihaaGreatDoor.Lat
