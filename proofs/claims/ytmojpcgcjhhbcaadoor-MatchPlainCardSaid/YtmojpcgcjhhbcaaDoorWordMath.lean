/-
  PLAIN: names, words with points between, patterns. No program is spoken of here.
-/
import Derived.Lib.Join
namespace Go.Proofs.YtmojpcgcjhhbcaaDoor.Wrd

def mark (b : UInt8) : Bool := (decide (97 ≤ b.toNat) && decide (b.toNat ≤ 122)) || (decide (48 ≤ b.toNat) && decide (b.toNat ≤ 57)) || decide (b.toNat = 45) || decide (b.toNat = 95)
def plain (l : List UInt8) : Bool := l.all mark && decide (l.length ≠ 0)
def nameCode (l : List UInt8) : Nat := if l.length = 0 then 15 else if 16 < l.length then 5 else if l.all mark then 0 else 4
/-- the words between the points -/
def cut : List UInt8 → List (List UInt8)
  | [] => [[]]
  | b :: l => if b = 46 then [] :: cut l else match cut l with
    | [] => [[b]]
    | h :: t => (b :: h) :: t
def words (l : List UInt8) : List (List UInt8) := if l.length = 0 then [] else cut l
def okWord (bs : List (List UInt8)) (x : List UInt8) : Bool := bs.contains x || plain x
def keyCode (bs : List (List UInt8)) (l : List UInt8) : Nat := if 64 < l.length then 5 else if (words l).all (okWord bs) then 0 else 4
def joinW : List (List UInt8) → List UInt8
  | [] => []
  | [w] => w
  | w :: v :: r => w ++ 46 :: joinW (v :: r)

theorem cut_ne (l : List UInt8) : cut l ≠ [] := by
  cases l with
  | nil => simp [cut]
  | cons b l =>
    unfold cut
    split
    · simp
    · split <;> simp
theorem cut_point (l : List UInt8) : cut (46 :: l) = [] :: cut l := by rw [cut, if_pos rfl]
theorem cut_other {b : UInt8} (hb : b ≠ 46) (l : List UInt8) : ∃ h t, cut l = h :: t ∧ cut (b :: l) = (b :: h) :: t := by
  cases hc : cut l with
  | nil => exact absurd hc (cut_ne l)
  | cons h t => exact ⟨h, t, rfl, by rw [cut, if_neg hb, hc]⟩
theorem join_cut (l : List UInt8) : joinW (cut l) = l := by
  induction l with
  | nil => rfl
  | cons b l ih =>
    by_cases hb : b = 46
    · subst hb
      rw [cut_point]
      cases hc : cut l with
      | nil => exact absurd hc (cut_ne l)
      | cons h t => rw [hc] at ih; rw [joinW, ih]; rfl
    · obtain ⟨h, t, h1, h2⟩ := cut_other hb l
      rw [h1] at ih
      rw [h2]
      cases t with
      | nil => rw [joinW] at ih ⊢; rw [ih]
      | cons v r => rw [joinW] at ih ⊢; rw [List.cons_append, ih]
theorem cut_no (l : List UInt8) : ∀ w ∈ cut l, (46 : UInt8) ∉ w := by
  induction l with
  | nil => intro w hw; simp [cut] at hw; subst hw; simp
  | cons b l ih =>
    by_cases hb : b = 46
    · subst hb
      rw [cut_point]
      intro w hw
      rcases List.mem_cons.1 hw with rfl | hw
      · simp
      · exact ih w hw
    · obtain ⟨h, t, h1, h2⟩ := cut_other hb l
      rw [h2]
      rw [h1] at ih
      intro w hw
      rcases List.mem_cons.1 hw with rfl | hw
      · intro hm
        rcases List.mem_cons.1 hm with e | hm
        · exact hb e.symm
        · exact ih h (by simp) hm
      · exact ih w (by simp [hw])
theorem cut_word {w : List UInt8} (h : (46 : UInt8) ∉ w) : cut w = [w] := by
  induction w with
  | nil => rfl
  | cons b w ih =>
    have hb : b ≠ 46 := fun e => h (by simp [e])
    have := ih (fun hm => h (by simp [hm]))
    rw [cut, if_neg hb, this]
theorem cut_app {w : List UInt8} (h : (46 : UInt8) ∉ w) (l : List UInt8) : cut (w ++ 46 :: l) = w :: cut l := by
  induction w with
  | nil => rw [List.nil_append, cut_point]
  | cons b w ih =>
    have hb : b ≠ 46 := fun e => h (by simp [e])
    have := ih (fun hm => h (by simp [hm]))
    rw [List.cons_append, cut, if_neg hb, this]
theorem cut_join : ∀ ws : List (List UInt8), ws ≠ [] → (∀ w ∈ ws, (46 : UInt8) ∉ w) → cut (joinW ws) = ws := by
  intro ws
  induction ws with
  | nil => intro h; exact absurd rfl h
  | cons w r ih =>
    intro _ h
    cases r with
    | nil => exact cut_word (h w (by simp))
    | cons v r => rw [joinW, cut_app (h w (by simp)), ih (by simp) (fun x hx => h x (by simp [hx]))]
theorem words_ne {l : List UInt8} (h : l.length ≠ 0) : words l = cut l := by unfold words; rw [if_neg h]
theorem words_nil {l : List UInt8} (h : l.length = 0) : words l = [] := by unfold words; rw [if_pos h]
theorem words_inj {l m : List UInt8} (h : words l = words m) : l = m := by
  by_cases h1 : l.length = 0
  · by_cases h2 : m.length = 0
    · rw [List.length_eq_zero_iff.1 h1, List.length_eq_zero_iff.1 h2]
    · rw [words_nil h1, words_ne h2] at h; exact absurd h.symm (cut_ne m)
  · by_cases h2 : m.length = 0
    · rw [words_ne h1, words_nil h2] at h; exact absurd h (cut_ne l)
    · rw [words_ne h1, words_ne h2] at h
      rw [← join_cut l, h, join_cut]
theorem cut_len (l : List UInt8) : (cut l).length ≤ l.length + 1 := by
  induction l with
  | nil => simp [cut]
  | cons b l ih =>
    by_cases hb : b = 46
    · subst hb; rw [cut_point, List.length_cons, List.length_cons]; omega
    · obtain ⟨h, t, h1, h2⟩ := cut_other hb l
      rw [h2, List.length_cons, List.length_cons]
      rw [h1, List.length_cons] at ih
      omega
theorem words_len (l : List UInt8) : (words l).length ≤ l.length + 1 := by
  unfold words
  split
  · simp
  · exact cut_len l
theorem cut_part (l : List UInt8) : ∀ w ∈ cut l, w.length ≤ l.length := by
  induction l with
  | nil => intro w hw; simp [cut] at hw; subst hw; simp
  | cons b l ih =>
    by_cases hb : b = 46
    · subst hb
      rw [cut_point]
      intro w hw
      rcases List.mem_cons.1 hw with rfl | hw
      · simp
      · have := ih w hw; rw [List.length_cons]; omega
    · obtain ⟨h, t, h1, h2⟩ := cut_other hb l
      rw [h2]
      rw [h1] at ih
      intro w hw
      rcases List.mem_cons.1 hw with rfl | hw
      · have := ih h (by simp); simp only [List.length_cons]; omega
      · have := ih w (by simp [hw]); rw [List.length_cons]; omega
theorem words_part (l : List UInt8) : ∀ w ∈ words l, w.length ≤ l.length := by
  unfold words
  split
  · intro w hw; simp at hw
  · exact cut_part l

/-! ### patterns -/
abbrev W := List UInt8
def star : W := [42]
def hash : W := [35]
/-- does a key match a pattern: both from behind -/
def mt : List W → List W → Bool
  | [], k => k.isEmpty
  | w :: p, [] => (w == hash) && mt p []
  | w :: p, x :: k => if w == hash then mt p (x :: k) || mt (w :: p) k else mt p k && (w == star || w == x)
termination_by p k => (p.length, k.length)
def matches' (p k : List W) : Bool := mt p.reverse k.reverse
/-- one row behind another -/
def nx (one : W) (ws : List W) (f : Nat → Bool) : Nat → Bool
  | 0 => (one == hash) && f 0
  | j + 1 => if one == hash then f (j + 1) || nx one ws f j else f j && (one == star || one == ws.getD j [])
def row (ws : List W) : List W → Nat → Bool
  | [] => fun j => j == 0
  | w :: p => nx w ws (row ws p)
theorem row_mt (ws : List W) : ∀ (p : List W) (j : Nat), j ≤ ws.length → row ws p j = mt p (ws.take j).reverse := by
  intro p
  induction p with
  | nil =>
    intro j hj
    cases j with
    | zero => simp [row, mt]
    | succ j =>
      rw [List.take_succ_eq_append_getElem (by omega), List.reverse_append]
      simp [row, mt]
  | cons w p ih =>
    intro j
    induction j with
    | zero =>
      intro hj
      have := ih 0 hj
      simp only [row, nx, List.take_zero, List.reverse_nil] at *
      rw [mt, this]
    | succ j ihj =>
      intro hj
      have h1 := ih (j + 1) hj
      have h2 := ih j (by omega)
      have h3 := ihj (by omega)
      have e : (ws.take (j + 1)).reverse = ws.getD j [] :: (ws.take j).reverse := by
        rw [List.take_succ_eq_append_getElem (by omega), List.reverse_append, List.getD_eq_getElem?_getD, List.getElem?_eq_getElem (by omega)]
        rfl
      rw [e] at h1 ⊢
      rw [mt]
      simp only [row] at *
      rw [nx, h1, h3, h2]
theorem row_all (p k : List W) : row k p.reverse k.length = matches' p k := by
  rw [row_mt k p.reverse k.length (Nat.le_refl _), List.take_length]; rfl
theorem mt_nil (k : List W) : mt [] k = k.isEmpty := by rw [mt]
theorem mt_hash_nil (p : List W) : mt (hash :: p) [] = mt p [] := by rw [mt]; simp
theorem mt_hash (p : List W) (x : W) (k : List W) : mt (hash :: p) (x :: k) = (mt p (x :: k) || mt (hash :: p) k) := by rw [mt]; simp
theorem mt_word {w : W} (h : w ≠ hash) (p : List W) (x : W) (k : List W) : mt (w :: p) (x :: k) = (mt p k && (w == star || w == x)) := by rw [mt]; simp [h]
theorem mt_word_nil {w : W} (h : w ≠ hash) (p : List W) : mt (w :: p) [] = false := by rw [mt]; simp [h]
theorem mt_same : ∀ p k : List W, (∀ w ∈ p, w ≠ hash ∧ w ≠ star) → mt p k = decide (p = k) := by
  intro p
  induction p with
  | nil => intro k _; rw [mt_nil]; cases k <;> simp
  | cons w p ih =>
    intro k h
    have hw := h w (by simp)
    cases k with
    | nil => rw [mt_word_nil hw.1]; simp
    | cons x k =>
      rw [mt_word hw.1, ih k (fun v hv => h v (by simp [hv])), Bool.eq_iff_iff]
      simp only [Bool.and_eq_true, Bool.or_eq_true, decide_eq_true_eq, beq_iff_eq, List.cons.injEq]
      constructor
      · rintro ⟨h1, h2 | h2⟩
        · exact absurd h2 hw.2
        · exact ⟨h2, h1⟩
      · rintro ⟨h1, h2⟩
        exact ⟨h2, Or.inr h1⟩
theorem mt_any (k : List W) : mt [hash] k = true := by
  induction k with
  | nil => rw [mt_hash_nil, mt_nil]; rfl
  | cons x k ih => rw [mt_hash, ih, Bool.or_true]
theorem mt_more {p k : List W} (h : mt p k = true) : mt (hash :: p) k = true := by
  cases k with
  | nil => rw [mt_hash_nil]; exact h
  | cons x k => rw [mt_hash, h, Bool.true_or]
theorem mt_set : ∀ (p : List W) (i : Nat) (k : List W), i < p.length → mt p k = true → mt (p.set i hash) k = true := by
  intro p
  induction p with
  | nil => intro i k h; simp at h
  | cons w p ih =>
    intro i k hi
    cases i with
    | zero =>
      intro h
      rw [List.set_cons_zero]
      by_cases hw : w = hash
      · rw [← hw]; exact h
      · cases k with
        | nil => rw [mt_word_nil hw] at h; cases h
        | cons x k =>
          rw [mt_word hw, Bool.and_eq_true] at h
          rw [mt_hash, mt_more h.1, Bool.or_true]
    | succ i =>
      rw [List.set_cons_succ]
      have hi' : i < p.length := by simpa using hi
      by_cases hw : w = hash
      · subst hw
        induction k with
        | nil => intro h; rw [mt_hash_nil] at *; exact ih i [] hi' h
        | cons x k ihk =>
          intro h
          rw [mt_hash, Bool.or_eq_true] at *
          rcases h with h | h
          · exact Or.inl (ih i _ hi' h)
          · exact Or.inr (ihk h)
      · intro h
        cases k with
        | nil => rw [mt_word_nil hw] at h; cases h
        | cons x k =>
          rw [mt_word hw, Bool.and_eq_true] at *
          exact ⟨ih i k hi' h.1, h.2⟩
theorem star_hash : star ≠ hash := by decide
theorem mt_stars : ∀ (n : Nat) (k : List W), mt (List.replicate n star) k = decide (k.length = n) := by
  intro n
  induction n with
  | zero => intro k; rw [List.replicate_zero, mt_nil]; cases k <;> simp
  | succ n ih =>
    intro k
    rw [List.replicate_succ]
    cases k with
    | nil => rw [mt_word_nil star_hash]; simp
    | cons x k => rw [mt_word star_hash, ih]; simp
theorem mt_stars_hash (n : Nat) : ∀ k : List W, mt (hash :: List.replicate n star) k = decide (n ≤ k.length) := by
  intro k
  induction k with
  | nil => rw [mt_hash_nil, mt_stars, Bool.eq_iff_iff]; simp; omega
  | cons x k ih =>
    rw [mt_hash, ih, mt_stars, Bool.eq_iff_iff]
    simp only [Bool.or_eq_true, decide_eq_true_eq, List.length_cons]
    omega
theorem rev_set (p : List W) (i : Nat) (a : W) (hi : i < p.length) : (p.set i a).reverse = p.reverse.set (p.length - 1 - i) a := by
  apply List.ext_getElem (by simp)
  intro j h1 h2
  have h3 : j < p.length := by simpa using h1
  simp only [List.getElem_reverse, List.getElem_set, List.length_set]
  by_cases e : i = p.length - 1 - j
  · rw [if_pos e, if_pos (by omega)]
  · rw [if_neg e, if_neg (by omega)]
theorem matches_set (p : List W) (i : Nat) (k : List W) (hi : i < p.length) (h : matches' p k = true) : matches' (p.set i hash) k = true := by
  unfold matches' at *
  rw [rev_set p i hash hi]
  exact mt_set _ _ _ (by rw [List.length_reverse]; omega) h
end Go.Proofs.YtmojpcgcjhhbcaaDoor.Wrd
