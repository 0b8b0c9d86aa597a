/-
 A part of the proof.
-/

import Derived.Lib.Join
section
namespace Go.Proofs.YtaikigponkjkgaaGreatDoor.Oct
def be : Nat → Nat → List UInt8
 | 0, _ => []
 | k + 1, n => be k (n / 256) ++ [UInt8.ofNat (n % 256)]
def width (b : Int) : Nat := if b ≤ 0 then 0 else if 8 ≤ b then 8 else b.toNat
def text (s : List UInt8) : List UInt8 := be 2 s.length ++ s
def val (l : List UInt8) : Nat := l.foldl (fun n b => n * 256 + b.toNat) 0

theorem length_be (k : Nat) : ∀ n, (be k n).length = k := by
 induction k with
 | zero => intro n; rfl
 | succ k ih => intro n; simp [be, ih]
theorem be_at (k : Nat) : ∀ (n i : Nat), i < k → (be k n)[i]? = some (UInt8.ofNat (n / 256 ^ (k - 1 - i) % 256)) := by
 induction k with
 | zero => intro n i h; omega
 | succ k ih =>
  intro n i h
  rw [be]
  by_cases hi : i < k
  ·rw [List.getElem?_append_left (by rw [length_be]; exact hi), ih _ _ hi, Nat.div_div_eq_div_mul]
   congr 3
   rw [show k + 1 - 1 - i = (k - 1 - i) + 1 from by omega, Nat.pow_succ, Nat.mul_comm]
  ·have e : i = k := by omega
   subst e
   rw [List.getElem?_append_right (by rw [length_be]; exact Nat.le_refl _), length_be]
   simp
theorem pow256 (m : Nat) : 2 ^ (8 * m) = 256 ^ m := by rw [Nat.pow_mul]
theorem width_le (b : Int) : width b ≤ 8 := by unfold width; split <;> (try split) <;> omega
theorem width_low {b : Int} (h : b ≤ 0) : width b = 0 := by unfold width; rw [if_pos h]
theorem width_high {b : Int} (h : 8 ≤ b) : width b = 8 := by unfold width; rw [if_neg (by omega), if_pos h]
theorem width_mid {b : Int} (h0 : 0 < b) (h8 : b < 8) : (width b : Int) = b := by unfold width; rw [if_neg (by omega), if_neg (by omega)]; omega
theorem width_num (k : Nat) (h : k ≤ 8) : width (k : Int) = k := by unfold width; split <;> (try split) <;> omega

theorem snoc_ind {α : Type} {p : List α → Prop} (h0 : p []) (h1 : ∀ l a, p l → p (l ++ [a])) (l : List α) : p l := by
 have h : ∀ n, ∀ l : List α, l.length = n → p l := by
  intro n
  induction n with
  | zero => intro l hl; rw [List.length_eq_zero_iff.1 hl]; exact h0
  | succ n ih =>
   intro l hl
   rcases List.eq_nil_or_concat l with rfl | ⟨m, a, rfl⟩
   ·simp at hl
   ·simp only [List.concat_eq_append] at hl ⊢
    exact h1 m a (ih m (by simpa using hl))
 exact h _ l rfl
theorem val_snoc (l : List UInt8) (b : UInt8) : val (l ++ [b]) = val l * 256 + b.toNat := by
 simp [val, List.foldl_append]
theorem val_be (k : Nat) : ∀ n, val (be k n) = n % 256 ^ k := by
 induction k with
 | zero => intro n; simp [be, val, Nat.mod_one]
 | succ k ih =>
  intro n
  rw [be, val_snoc, ih]
  have h : (UInt8.ofNat (n % 256)).toNat = n % 256 := by simp [UInt8.toNat_ofNat']
  rw [h, Nat.pow_succ, Nat.mul_comm (256 ^ k) 256, Nat.mod_mul]
  omega
theorem val_lt (l : List UInt8) : val l < 256 ^ l.length := by
 induction l using snoc_ind with
 | h0 => simp [val]
 | h1 l b ih =>
  rw [val_snoc]
  have := b.toNat_lt
  simp only [List.length_append, List.length_cons, List.length_nil, Nat.zero_add, Nat.pow_succ]
  omega
end Go.Proofs.YtaikigponkjkgaaGreatDoor.Oct
end
section
namespace Go.Proofs.YtaikigponkjkgaaGreatDoor.Wrd
def mark (b : UInt8) : Bool := (decide (97 ≤ b.toNat) && decide (b.toNat ≤ 122)) || (decide (48 ≤ b.toNat) && decide (b.toNat ≤ 57)) || decide (b.toNat = 45) || decide (b.toNat = 95)
def plain (l : List UInt8) : Bool := l.all mark && decide (l.length ≠ 0)
def nameCode (l : List UInt8) : Nat := if l.length = 0 then 15 else if 16 < l.length then 5 else if l.all mark then 0 else 4
def cut : List UInt8 → List (List UInt8)
 | [] => [[]]
 | b :: l => if b = 46 then [] :: cut l else match cut l with
  | [] => [[b]]
  | h :: t => (b :: h) :: t
def words (l : List UInt8) : List (List UInt8) := if l.length = 0 then [] else cut l
def okWord (bs : List (List UInt8)) (x : List UInt8) : Bool := bs.contains x || plain x
def keyCode (bs : List (List UInt8)) (l : List UInt8) : Nat := if 64 < l.length then 5 else if (words l).all (okWord bs) then 0 else 4
theorem cut_ne (l : List UInt8) : cut l ≠ [] := by
 cases l with
 | nil => simp [cut]
 | cons b l =>
  unfold cut
  split
  ·simp
  ·split <;> simp
theorem cut_point (l : List UInt8) : cut (46 :: l) = [] :: cut l := by rw [cut, if_pos rfl]
theorem cut_other {b : UInt8} (hb : b ≠ 46) (l : List UInt8) : ∃ h t, cut l = h :: t ∧ cut (b :: l) = (b :: h) :: t := by
 cases hc : cut l with
 | nil => exact absurd hc (cut_ne l)
 | cons h t => exact ⟨h, t, rfl, by rw [cut, if_neg hb, hc]⟩
theorem cut_word {w : List UInt8} (h : (46 : UInt8) ∉ w) : cut w = [w] := by
 induction w with
 | nil => rfl
 | cons b w ih =>
  have hb : b ≠ 46 := fun e => h (by simp [e])
  have := ih (fun hm => h (by simp [hm]))
  rw [cut, if_neg hb, this]
theorem cut_app {w : List UInt8} (h : (46 : UInt8) ∉ w) (l : List UInt8) : cut (w ++ 46 :: l) = w :: cut l := by
 induction w with
 | nil => rw [List.nil_append, cut_point]
 | cons b w ih =>
  have hb : b ≠ 46 := fun e => h (by simp [e])
  have := ih (fun hm => h (by simp [hm]))
  rw [List.cons_append, cut, if_neg hb, this]
theorem words_ne {l : List UInt8} (h : l.length ≠ 0) : words l = cut l := by unfold words; rw [if_neg h]
theorem words_nil {l : List UInt8} (h : l.length = 0) : words l = [] := by unfold words; rw [if_pos h]
theorem cut_len (l : List UInt8) : (cut l).length ≤ l.length + 1 := by
 induction l with
 | nil => simp [cut]
 | cons b l ih =>
  by_cases hb : b = 46
  ·subst hb; rw [cut_point, List.length_cons, List.length_cons]; omega
  ·obtain ⟨h, t, h1, h2⟩ := cut_other hb l
   rw [h2, List.length_cons, List.length_cons]
   rw [h1, List.length_cons] at ih
   omega
theorem words_len (l : List UInt8) : (words l).length ≤ l.length + 1 := by
 unfold words
 split
 ·simp
 ·exact cut_len l
theorem cut_part (l : List UInt8) : ∀ w ∈ cut l, w.length ≤ l.length := by
 induction l with
 | nil => intro w hw; simp [cut] at hw; subst hw; simp
 | cons b l ih =>
  by_cases hb : b = 46
  ·subst hb
   rw [cut_point]
   intro w hw
   rcases List.mem_cons.1 hw with rfl | hw
   ·simp
   ·have := ih w hw; rw [List.length_cons]; omega
  ·obtain ⟨h, t, h1, h2⟩ := cut_other hb l
   rw [h2]
   rw [h1] at ih
   intro w hw
   rcases List.mem_cons.1 hw with rfl | hw
   ·have := ih h (by simp); simp only [List.length_cons]; omega
   ·have := ih w (by simp [hw]); rw [List.length_cons]; omega
theorem words_part (l : List UInt8) : ∀ w ∈ words l, w.length ≤ l.length := by
 unfold words
 split
 ·intro w hw; simp at hw
 ·exact cut_part l

/-! ### patterns -/
abbrev W := List UInt8
def star : W := [42]
def hash : W := [35]
def mt : List W → List W → Bool
 | [], k => k.isEmpty
 | w :: p, [] => (w == hash) && mt p []
 | w :: p, x :: k => if w == hash then mt p (x :: k) || mt (w :: p) k else mt p k && (w == star || w == x)
termination_by p k => (p.length, k.length)
def matches' (p k : List W) : Bool := mt p.reverse k.reverse
def nx (one : W) (ws : List W) (f : Nat → Bool) : Nat → Bool
 | 0 => (one == hash) && f 0
 | j + 1 => if one == hash then f (j + 1) || nx one ws f j else f j && (one == star || one == ws.getD j [])
def row (ws : List W) : List W → Nat → Bool
 | [] => fun j => j == 0
 | w :: p => nx w ws (row ws p)
theorem row_mt (ws : List W) : ∀ (p : List W) (j : Nat), j ≤ ws.length → row ws p j = mt p (ws.take j).reverse := by
 intro p
 induction p with
 | nil =>
  intro j hj
  cases j with
  | zero => simp [row, mt]
  | succ j =>
   rw [List.take_succ_eq_append_getElem (by omega), List.reverse_append]
   simp [row, mt]
 | cons w p ih =>
  intro j
  induction j with
  | zero =>
   intro hj
   have := ih 0 hj
   simp only [row, nx, List.take_zero, List.reverse_nil] at *
   rw [mt, this]
  | succ j ihj =>
   intro hj
   have h1 := ih (j + 1) hj
   have h2 := ih j (by omega)
   have h3 := ihj (by omega)
   have e : (ws.take (j + 1)).reverse = ws.getD j [] :: (ws.take j).reverse := by
    rw [List.take_succ_eq_append_getElem (by omega), List.reverse_append, List.getD_eq_getElem?_getD, List.getElem?_eq_getElem (by omega)]
    rfl
   rw [e] at h1 ⊢
   rw [mt]
   simp only [row] at *
   rw [nx, h1, h3, h2]
theorem row_all (p k : List W) : row k p.reverse k.length = matches' p k := by
 rw [row_mt k p.reverse k.length (Nat.le_refl _), List.take_length]; rfl
end Go.Proofs.YtaikigponkjkgaaGreatDoor.Wrd
end
