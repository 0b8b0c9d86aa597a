/-
  PLAIN: numbers as bytes, the highest first; how many bytes a number has. No program is spoken of here.
-/


section
namespace Go.Proofs.YtecjngodfciokaaGreatDoor.Oct
/-- the last k bytes of n, the highest first -/
def be : Nat → Nat → List UInt8
  | 0, _ => []
  | k + 1, n => be k (n / 256) ++ [UInt8.ofNat (n % 256)]
/-- how many bytes, whatever was asked for -/
def width (b : Int) : Nat := if b ≤ 0 then 0 else if 8 ≤ b then 8 else b.toNat
def text (s : List UInt8) : List UInt8 := be 2 s.length ++ s
/-- the number that bytes are -/
def val (l : List UInt8) : Nat := l.foldl (fun n b => n * 256 + b.toNat) 0

theorem length_be (k : Nat) : ∀ n, (be k n).length = k := by
  induction k with
  | zero => intro n; rfl
  | succ k ih => intro n; simp [be, ih]
theorem be_at (k : Nat) : ∀ (n i : Nat), i < k → (be k n)[i]? = some (UInt8.ofNat (n / 256 ^ (k - 1 - i) % 256)) := by
  induction k with
  | zero => intro n i h; omega
  | succ k ih =>
    intro n i h
    rw [be]
    by_cases hi : i < k
    · rw [List.getElem?_append_left (by rw [length_be]; exact hi), ih _ _ hi, Nat.div_div_eq_div_mul]
      congr 3
      rw [show k + 1 - 1 - i = (k - 1 - i) + 1 from by omega, Nat.pow_succ, Nat.mul_comm]
    · have e : i = k := by omega
      subst e
      rw [List.getElem?_append_right (by rw [length_be]; exact Nat.le_refl _), length_be]
      simp
theorem pow256 (m : Nat) : 2 ^ (8 * m) = 256 ^ m := by rw [Nat.pow_mul]
theorem width_le (b : Int) : width b ≤ 8 := by unfold width; split <;> (try split) <;> omega
theorem width_low {b : Int} (h : b ≤ 0) : width b = 0 := by unfold width; rw [if_pos h]
theorem width_high {b : Int} (h : 8 ≤ b) : width b = 8 := by unfold width; rw [if_neg (by omega), if_pos h]
theorem width_mid {b : Int} (h0 : 0 < b) (h8 : b < 8) : (width b : Int) = b := by unfold width; rw [if_neg (by omega), if_neg (by omega)]; omega
theorem width_num (k : Nat) (h : k ≤ 8) : width (k : Int) = k := by unfold width; split <;> (try split) <;> omega

theorem snoc_ind {α : Type} {p : List α → Prop} (h0 : p []) (h1 : ∀ l a, p l → p (l ++ [a])) (l : List α) : p l := by
  have h : ∀ n, ∀ l : List α, l.length = n → p l := by
    intro n
    induction n with
    | zero => intro l hl; rw [List.length_eq_zero_iff.1 hl]; exact h0
    | succ n ih =>
      intro l hl
      rcases List.eq_nil_or_concat l with rfl | ⟨m, a, rfl⟩
      · simp at hl
      · simp only [List.concat_eq_append] at hl ⊢
        exact h1 m a (ih m (by simpa using hl))
  exact h _ l rfl
theorem val_snoc (l : List UInt8) (b : UInt8) : val (l ++ [b]) = val l * 256 + b.toNat := by
  simp [val, List.foldl_append]
theorem val_lt (l : List UInt8) : val l < 256 ^ l.length := by
  induction l using snoc_ind with
  | h0 => simp [val]
  | h1 l b ih =>
    rw [val_snoc]
    have := b.toNat_lt
    simp only [List.length_append, List.length_cons, List.length_nil, Nat.zero_add, Nat.pow_succ]
    omega
end Go.Proofs.YtecjngodfciokaaGreatDoor.Oct
end
