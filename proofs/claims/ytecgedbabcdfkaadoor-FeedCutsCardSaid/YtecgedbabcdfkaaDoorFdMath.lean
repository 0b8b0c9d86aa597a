/-
  PLAIN: all frames of bytes, one behind the other; what is kept, and the error; bytes that come in pieces. No program is spoken of here.
-/
import Derived.Test.YtecgedbabcdfkaaDoorFrMath
namespace Go.Proofs.YtecgedbabcdfkaaDoor.Fr

structure Frame where
  c : UInt8
  k : UInt8
  b : List UInt8
def front (l : List UInt8) : Frame := ⟨l.getD 0 0, l.getD 1 0, body l⟩
theorem code_zero {l : List UInt8} (h : code l = 0) : len l + 9 ≤ l.length ∧ len l ≤ 2048 := by
  unfold code at h
  split at h
  · cases h
  · split at h
    · cases h
    · split at h
      · cases h
      · omega
theorem code_three {l : List UInt8} (h : code l = 3) : l.length < 2057 := by
  unfold code at h
  split at h
  · omega
  · split at h
    · cases h
    · split at h
      · omega
      · split at h
        · cases h
        · split at h <;> cases h
theorem code_cases (l : List UInt8) : code l = 0 ∨ code l = 3 ∨ code l = 4 ∨ code l = 5 ∨ code l = 14 := by
  unfold code
  split
  · simp
  · split
    · simp
    · split
      · simp
      · split
        · simp
        · split <;> simp
def feed (l : List UInt8) : List Frame × List UInt8 × Nat :=
  if h : code l = 0 then (front l :: (feed (l.drop (len l + 9))).1, (feed (l.drop (len l + 9))).2)
  else if code l = 3 then ([], l, 0) else ([], [], code l)
termination_by l.length
decreasing_by
  all_goals
    have := code_zero h
    rw [List.length_drop]
    omega
theorem feed_ok {l : List UInt8} (h : code l = 0) : feed l = (front l :: (feed (l.drop (len l + 9))).1, (feed (l.drop (len l + 9))).2) := by
  rw [feed, dif_pos h]
theorem feed_short {l : List UInt8} (h : code l = 3) : feed l = ([], l, 0) := by
  rw [feed, dif_neg (by omega), if_pos h]
theorem feed_err {l : List UInt8} (h0 : code l ≠ 0) (h3 : code l ≠ 3) : feed l = ([], [], code l) := by
  rw [feed, dif_neg h0, if_neg h3]
theorem feed_ind {p : List UInt8 → Prop} (h : ∀ l, (code l = 0 → p (l.drop (len l + 9))) → p l) (l : List UInt8) : p l := by
  have key : ∀ n, ∀ l : List UInt8, l.length < n → p l := by
    intro n
    induction n with
    | zero => intro l hl; omega
    | succ n ih =>
      intro l hl
      refine h l fun hc => ih _ ?_
      have := code_zero hc
      rw [List.length_drop]
      omega
  exact key _ l (Nat.lt_succ_self _)
theorem feed_rest {l : List UInt8} : (feed l).2.2 = 0 → code (feed l).2.1 = 3 := by
  induction l using feed_ind with
  | h l ih =>
    intro h0
    by_cases hc : code l = 0
    · rw [feed_ok hc] at h0 ⊢
      exact ih hc h0
    · by_cases h3 : code l = 3
      · rw [feed_short h3]; exact h3
      · rw [feed_err hc h3] at h0
        exact absurd h0 hc
theorem feed_none {l : List UInt8} : (feed l).2.2 ≠ 0 → (feed l).2.1 = [] := by
  induction l using feed_ind with
  | h l ih =>
    intro h0
    by_cases hc : code l = 0
    · rw [feed_ok hc] at h0 ⊢
      exact ih hc h0
    · by_cases h3 : code l = 3
      · rw [feed_short h3] at h0; exact absurd rfl h0
      · rw [feed_err hc h3]
theorem feed_small {l : List UInt8} : (feed l).2.1.length < 2057 := by
  by_cases h : (feed l).2.2 = 0
  · exact code_three (feed_rest h)
  · rw [feed_none h]; simp
theorem feed_rest_le (l : List UInt8) : (feed l).2.1.length ≤ l.length := by
  induction l using feed_ind with
  | h l ih =>
    by_cases hc : code l = 0
    · rw [feed_ok hc]
      have := ih hc
      rw [List.length_drop] at this
      exact Nat.le_trans this (by omega)
    · by_cases h3 : code l = 3
      · rw [feed_short h3]; exact Nat.le_refl _
      · rw [feed_err hc h3]; simp
theorem feed_count (l : List UInt8) : (feed l).1.length * 9 ≤ l.length := by
  induction l using feed_ind with
  | h l ih =>
    by_cases hc : code l = 0
    · rw [feed_ok hc]
      have := ih hc
      have h2 := code_zero hc
      rw [List.length_drop] at this
      simp only [List.length_cons]
      omega
    · by_cases h3 : code l = 3
      · rw [feed_short h3]; simp
      · rw [feed_err hc h3]; simp

/-! ### more bytes -/
theorem getD_app {l : List UInt8} (m : List UInt8) {i : Nat} (h : i < l.length) : (l ++ m).getD i 0 = l.getD i 0 := by
  rw [List.getD_eq_getElem?_getD, List.getD_eq_getElem?_getD, List.getElem?_append_left h]
theorem len_app {l : List UInt8} (m : List UInt8) (h : 4 ≤ l.length) : len (l ++ m) = len l := by
  unfold len
  rw [getD_app m (by omega), getD_app m (by omega)]
theorem code_app {l : List UInt8} (m : List UInt8) (h : code l ≠ 3) : code (l ++ m) = code l := by
  have h4 : 4 ≤ l.length := by
    rcases Nat.lt_or_ge l.length 4 with hlt | hge
    · exfalso; apply h; unfold code; rw [if_pos hlt]
    · exact hge
  unfold code at h ⊢
  rw [len_app m h4, if_neg (by rw [List.length_append]; omega), if_neg (show ¬ l.length < 4 by omega)]
  rw [if_neg (show ¬ l.length < 4 by omega)] at h
  by_cases h5 : 2048 < len l
  · rw [if_pos h5, if_pos h5]
  · rw [if_neg h5] at h
    rw [if_neg h5, if_neg h5]
    by_cases h9 : l.length < len l + 9
    · rw [if_pos h9] at h; exact absurd rfl h
    · rw [if_neg h9, if_neg (by rw [List.length_append]; omega), getD_app m (by omega), List.drop_append_of_le_length (by omega), List.take_append_of_le_length (by rw [List.length_drop]; omega), List.take_append_of_le_length (by omega)]
theorem front_app {l : List UInt8} (m : List UInt8) (h : code l = 0) : front (l ++ m) = front l := by
  have hz := code_zero h
  unfold front body
  rw [getD_app m (by omega), getD_app m (by omega), len_app m (by omega), List.drop_append_of_le_length (by omega), List.take_append_of_le_length (by rw [List.length_drop]; omega)]
theorem feed_app {l : List UInt8} (m : List UInt8) : (feed l).2.2 = 0 → feed (l ++ m) = ((feed l).1 ++ (feed ((feed l).2.1 ++ m)).1, (feed ((feed l).2.1 ++ m)).2) := by
  induction l using feed_ind with
  | h l ih =>
    intro h0
    by_cases hc : code l = 0
    · have hz := code_zero hc
      have hc2 : code (l ++ m) = 0 := by rw [code_app m (by omega)]; exact hc
      have hl2 := len_app m (l := l) (by omega)
      rw [feed_ok hc] at h0
      have hi := ih hc h0
      rw [feed_ok hc2, hl2, List.drop_append_of_le_length (by omega), hi, front_app m hc]
      conv => rhs; rw [feed_ok hc]
      rfl
    · by_cases h3 : code l = 3
      · rw [feed_short h3]; rfl
      · rw [feed_err hc h3] at h0; exact absurd h0 hc
theorem feed_app_err {l : List UInt8} (m : List UInt8) : (feed l).2.2 ≠ 0 → feed (l ++ m) = feed l := by
  induction l using feed_ind with
  | h l ih =>
    intro h0
    by_cases hc : code l = 0
    · have hz := code_zero hc
      have hc2 : code (l ++ m) = 0 := by rw [code_app m (by omega)]; exact hc
      have hl2 := len_app m (l := l) (by omega)
      rw [feed_ok hc] at h0
      have hi := ih hc h0
      rw [feed_ok hc2, hl2, List.drop_append_of_le_length (by omega), hi, front_app m hc]
      conv => rhs; rw [feed_ok hc]
    · by_cases h3 : code l = 3
      · rw [feed_short h3] at h0; exact absurd rfl h0
      · rw [feed_err (by rw [code_app m h3]; exact hc) (by rw [code_app m h3]; exact h3), code_app m h3, feed_err hc h3]

/-- what a Take does, of what was kept and the error, to bytes that come -/
def take (r : List UInt8) (e : Nat) (l : List UInt8) : List Frame × List UInt8 × Nat := if e ≠ 0 then ([], r, e) else feed (r ++ l)
theorem take_feed (s l : List UInt8) : feed (s ++ l) = ((feed s).1 ++ (take (feed s).2.1 (feed s).2.2 l).1, (take (feed s).2.1 (feed s).2.2 l).2) := by
  unfold take
  by_cases h : (feed s).2.2 ≠ 0
  · rw [if_pos h, feed_app_err l h]
    simp
  · rw [if_neg h, feed_app l (by simpa using h)]

/-! ### frames that were written -/
def encF (f : Frame) : List UInt8 := enc f.c f.k f.b
def encs (l : List Frame) : List UInt8 := l.flatMap encF
theorem feed_nil : feed [] = ([], [], 0) := feed_short rfl
theorem feed_enc {f : Frame} (m : List UInt8) (hb : f.b.length ≤ 2048) : feed (encF f ++ m) = (f :: (feed m).1, (feed m).2) := by
  unfold encF
  rw [feed_ok (enc_code m hb), enc_len m hb, enc_drop]
  unfold front
  rw [enc_0, enc_1, enc_body m hb]
theorem feed_encs (l : List Frame) (h : ∀ f ∈ l, f.b.length ≤ 2048) : feed (encs l) = (l, [], 0) := by
  induction l with
  | nil => exact feed_nil
  | cons f l ih =>
    unfold encs at *
    rw [List.flatMap_cons, feed_enc _ (h f (by simp)), ih (fun g hg => h g (List.mem_cons_of_mem _ hg))]
end Go.Proofs.YtecgedbabcdfkaaDoor.Fr
