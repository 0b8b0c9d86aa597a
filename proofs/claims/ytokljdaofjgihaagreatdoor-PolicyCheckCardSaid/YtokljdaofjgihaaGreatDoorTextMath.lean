/-
  PLAIN: numbers in digits, a label's text, and that it is read back. No program is spoken of here.
-/
import Derived.Test.YtokljdaofjgihaaGreatDoorLatMath
import Derived.Test.YtokljdaofjgihaaGreatDoorOctMath
import Derived.Lib.ItoaNum
namespace Go.Proofs.YtokljdaofjgihaaGreatDoor.Lat
open Go.Lib (decDigits)

theorem dig_of {b : UInt8} (h1 : 48 ≤ b.toNat) (h2 : b.toNat ≤ 57) : dig b = true := by unfold dig; simp [h1, h2]
theorem dig_bounds {b : UInt8} (h : dig b = true) : 48 ≤ b.toNat ∧ b.toNat ≤ 57 := by unfold dig at h; simpa using h
theorem digit_toNat {d : Nat} (h : d < 10) : (UInt8.ofNat (48 + d)).toNat = 48 + d := by rw [UInt8.toNat_ofNat']; omega
theorem dec_small {u : Nat} (h : u < 10) : decDigits u = [UInt8.ofNat (48 + u)] := by rw [decDigits, dif_pos h]
theorem dec_big {u : Nat} (h : ¬ u < 10) : decDigits u = decDigits (u / 10) ++ [UInt8.ofNat (48 + u % 10)] := by rw [decDigits, dif_neg h]
theorem dec_dig : ∀ (u : Nat) (b : UInt8), b ∈ decDigits u → dig b = true := by
  intro u
  induction u using Nat.strongRecOn with
  | _ u ih =>
    intro b hb
    by_cases h : u < 10
    · rw [dec_small h, List.mem_singleton] at hb
      subst hb
      have := digit_toNat h
      exact dig_of (by omega) (by omega)
    · rw [dec_big h, List.mem_append, List.mem_singleton] at hb
      rcases hb with hb | rfl
      · exact ih (u / 10) (by omega) b hb
      · have := digit_toNat (d := u % 10) (by omega)
        exact dig_of (by omega) (by omega)
theorem dec_val : ∀ u : Nat, val (decDigits u) = u := by
  intro u
  induction u using Nat.strongRecOn with
  | _ u ih =>
    by_cases h : u < 10
    · rw [dec_small h]
      have := digit_toNat h
      show 10 * 0 + ((UInt8.ofNat (48 + u)).toNat - 48) = u
      omega
    · rw [dec_big h, val_snoc, ih (u / 10) (by omega)]
      have := digit_toNat (d := u % 10) (by omega)
      omega
theorem dec_ne (u : Nat) : decDigits u ≠ [] := by
  by_cases h : u < 10
  · rw [dec_small h]; simp
  · rw [dec_big h]; simp
theorem head_app {d r : List UInt8} (h : d ≠ []) : (d ++ r).head? = d.head? := by
  cases d with
  | nil => exact absurd rfl h
  | cons b d => rfl
theorem dec_head : ∀ u : Nat, (decDigits u).head? = some 48 → u = 0 := by
  intro u
  induction u using Nat.strongRecOn with
  | _ u ih =>
    intro hh
    by_cases h : u < 10
    · rw [dec_small h, List.head?_cons, Option.some_inj] at hh
      have := digit_toNat h
      rw [hh] at this
      have e : (48 : UInt8).toNat = 48 := rfl
      omega
    · rw [dec_big h, head_app (dec_ne _)] at hh
      have := ih (u / 10) (by omega) hh
      omega
theorem dec_len (u : Nat) : 0 < (decDigits u).length := List.length_pos_iff.2 (dec_ne u)
theorem dec_zero : (decDigits 0).length = 1 := by rw [dec_small (by omega)]; rfl
theorem val_from (l : List UInt8) : ∀ n, n ≤ l.foldl (fun n b => 10 * n + (b.toNat - 48)) n := by
  induction l with
  | nil => intro n; exact Nat.le_refl _
  | cons b l ih => intro n; exact Nat.le_trans (by omega) (ih (10 * n + (b.toNat - 48)))
theorem val_pos {b : UInt8} {l : List UInt8} (hb : dig b = true) (h : b ≠ 48) : 0 < val (b :: l) := by
  have h1 := dig_bounds hb
  have h2 : b.toNat ≠ 48 := fun e => h (UInt8.toNat_inj.1 e)
  have := val_from l (10 * 0 + (b.toNat - 48))
  show 0 < l.foldl _ (10 * 0 + (b.toNat - 48))
  omega
theorem val_dec : ∀ l : List UInt8, l ≠ [] → (∀ b ∈ l, dig b = true) → ¬ (1 < l.length ∧ l.head? = some 48) → decDigits (val l) = l := by
  intro l
  induction l using Oct.snoc_ind with
  | h0 => intro h; exact absurd rfl h
  | h1 l b ih =>
    intro _ hd hn
    have hb := dig_bounds (hd b (by simp))
    have hbb : UInt8.ofNat (48 + (b.toNat - 48)) = b := by
      apply UInt8.toNat_inj.1; rw [UInt8.toNat_ofNat']; omega
    cases l with
    | nil =>
      show decDigits (10 * 0 + (b.toNat - 48)) = [b]
      rw [show 10 * 0 + (b.toNat - 48) = b.toNat - 48 by omega, dec_small (by omega), hbb]
    | cons c l =>
      have hc : c ≠ 48 := by
        rintro rfl
        exact hn ⟨by simp, rfl⟩
      have hv := val_pos (l := l) (hd c (by simp)) hc
      rw [val_snoc, dec_big (by omega)]
      have e1 : (10 * val (c :: l) + (b.toNat - 48)) / 10 = val (c :: l) := by omega
      have e2 : (10 * val (c :: l) + (b.toNat - 48)) % 10 = b.toNat - 48 := by omega
      rw [e1, e2, hbb, ih (by simp) (fun x hx => hd x (List.mem_append.2 (Or.inl hx))) (by
        rintro ⟨_, h⟩
        rw [List.head?_cons, Option.some_inj] at h
        exact hc h)]
theorem digs_dig (l : List UInt8) : ∀ b ∈ digs l, dig b = true := by
  induction l with
  | nil => intro b hb; simp [digs] at hb
  | cons c l ih =>
    intro b hb
    unfold digs at hb ih
    by_cases hc : dig c = true
    · rw [List.takeWhile_cons_of_pos hc, List.mem_cons] at hb
      rcases hb with rfl | hb
      · exact hc
      · exact ih b hb
    · rw [List.takeWhile_cons_of_neg hc] at hb
      simp at hb
theorem digs_append {d r : List UInt8} (hd : ∀ b ∈ d, dig b = true) (hr : ∀ b, r.head? = some b → dig b = false) : digs (d ++ r) = d := by
  induction d with
  | nil =>
    cases r with
    | nil => rfl
    | cons b r => unfold digs; rw [List.nil_append, List.takeWhile_cons_of_neg (by rw [hr b rfl]; simp)]
  | cons c d ih =>
    have := ih (fun b hb => hd b (by simp [hb]))
    unfold digs at *
    rw [List.cons_append, List.takeWhile_cons_of_pos (hd c (by simp)), this]
/-- what was written is read -/
theorem num_dec (most v : Nat) (r : List UInt8) (hr : ∀ b, r.head? = some b → dig b = false) : num most (decDigits v ++ r) = if most < v then (0, [], 7) else (v, r, 0) := by
  have hd := digs_append (r := r) (dec_dig v) hr
  have hl := dec_len v
  have hn : ¬ (1 < (digs (decDigits v ++ r)).length ∧ (decDigits v ++ r).head? = some 48) := by
    rw [hd]
    rintro ⟨h1, h2⟩
    rw [head_app (dec_ne v)] at h2
    rw [dec_head v h2, dec_zero] at h1
    omega
  by_cases h : most < v
  · rw [if_pos h, num_range (by rw [hd]; omega) hn (by rw [hd, dec_val]; exact h)]
  · rw [if_neg h, num_ok (by rw [hd]; omega) hn (by rw [hd, dec_val]; exact h), hd, dec_val, List.drop_left]
/-- what is read was written so -/
theorem num_text {most : Nat} {l : List UInt8} (h : (num most l).2.2 = 0) : l = decDigits (num most l).1 ++ (num most l).2.1 := by
  by_cases h0 : l.length = 0
  · rw [num_short h0] at h; simp at h
  · by_cases h1 : (digs l).length = 0
    · rw [num_form h0 h1] at h; simp at h
    · by_cases h2 : 1 < (digs l).length ∧ l.head? = some 48
      · rw [num_nought h2.1 h2.2] at h; simp at h
      · by_cases h3 : most < val (digs l)
        · rw [num_range h1 h2 h3] at h; simp at h
        · rw [num_ok h1 h2 h3]
          have hne : digs l ≠ [] := fun e => h1 (by rw [e]; rfl)
          have hh : (digs l).head? = l.head? := by
            have := take_digs l
            rw [← this, List.head?_take]
            rw [if_neg (by omega)]
          have := val_dec (digs l) hne (digs_dig l) (by rw [hh]; exact h2)
          show l = decDigits (val (digs l)) ++ l.drop (digs l).length
          rw [this]
          conv => lhs; rw [← List.take_append_drop (digs l).length l, take_digs]

/-! ### the text of a label -/
def piece (st i : Nat) : List UInt8 := if st.testBit i = true then 58 :: decDigits i else []
def bits (st : Nat) : Nat → List UInt8
  | 0 => []
  | k + 1 => bits st k ++ piece st k
def suf (st : Nat) : Nat → List UInt8
  | 0 => []
  | n + 1 => piece st (31 - n) ++ suf st n
def textL (lv st : Nat) : List UInt8 := decDigits lv ++ bits st 32
theorem bits_suf (st : Nat) : ∀ n, n ≤ 32 → bits st (32 - n) ++ suf st n = bits st 32 := by
  intro n
  induction n with
  | zero => intro _; simp [suf]
  | succ n ih =>
    intro h
    have e : 32 - n = (32 - (n + 1)) + 1 := by omega
    have := ih (by omega)
    rw [e] at this
    rw [← this]
    have e2 : 31 - n = 32 - (n + 1) := by omega
    simp only [bits, suf, e2, List.append_assoc]
theorem bits_all (st : Nat) : bits st 32 = suf st 32 := by have := bits_suf st 32 (by omega); simpa [bits] using this.symm
theorem suf_head (st : Nat) : ∀ n b, (suf st n).head? = some b → dig b = false := by
  intro n
  induction n with
  | zero => intro b h; simp [suf] at h
  | succ n ih =>
    intro b h
    rw [suf] at h
    by_cases hb : st.testBit (31 - n) = true
    · rw [piece, if_pos hb, List.cons_append, List.head?_cons, Option.some_inj] at h
      subst h; rfl
    · rw [piece, if_neg hb, List.nil_append] at h
      exact ih b h
theorem mod_step {st i : Nat} : st % 2 ^ (i + 1) = st % 2 ^ i + (if st.testBit i = true then 2 ^ i else 0) := by
  rw [Nat.testBit_eq_decide_div_mod_eq, Nat.pow_succ, Nat.mod_mul]
  by_cases h : st / 2 ^ i % 2 = 1
  · rw [if_pos (by simp [h]), h]; omega
  · have : st / 2 ^ i % 2 = 0 := by omega
    rw [if_neg (by simp [h]), this]; omega
theorem set_suf (st : Nat) (hst : st < 4294967296) : ∀ n, n ≤ 32 → ∀ f, (suf st n).length ≤ f → set f (st % 2 ^ (32 - n)) (suf st n) = (st, 0) := by
  intro n
  induction n with
  | zero =>
    intro _ f _
    rw [suf, set_nil, Nat.sub_zero, Nat.mod_eq_of_lt (show st < 2 ^ 32 from hst)]
  | succ n ih =>
    intro hn f hf
    have e : 32 - n = (31 - n) + 1 := by omega
    have e1 : 32 - (n + 1) = 31 - n := by omega
    have hi := ih (by omega)
    rw [e] at hi
    rw [e1]
    by_cases hb : st.testBit (31 - n) = true
    · have hs : suf st (n + 1) = 58 :: (decDigits (31 - n) ++ suf st n) := by rw [suf, piece, if_pos hb]; rfl
      rw [hs] at hf ⊢
      obtain ⟨f, rfl⟩ : ∃ f', f = f' + 1 := ⟨f - 1, by rw [List.length_cons] at hf; omega⟩
      have hnum := num_dec 31 (31 - n) (suf st n) (suf_head st n)
      rw [if_neg (by omega)] at hnum
      have hlt : st % 2 ^ (31 - n) < 2 ^ (31 - n) := Nat.mod_lt _ (Nat.two_pow_pos _)
      rw [set_next (by rw [hnum]) (by rw [hnum]; exact Nat.div_eq_of_lt hlt), hnum]
      have hm := mod_step (st := st) (i := 31 - n)
      rw [if_pos hb] at hm
      show set f (st % 2 ^ (31 - n) + 2 ^ (31 - n)) (suf st n) = (st, 0)
      rw [← hm]
      refine hi f ?_
      rw [List.length_cons, List.length_append] at hf
      omega
    · have hs : suf st (n + 1) = suf st n := by rw [suf, piece, if_neg hb]; rfl
      rw [hs] at hf ⊢
      have hm : st % 2 ^ (31 - n + 1) = st % 2 ^ (31 - n) := by
        have := mod_step (st := st) (i := 31 - n)
        rw [if_neg hb] at this
        exact this
      rw [← hm]
      exact hi f hf
theorem parse_text (lv st : Nat) (hst : st < 4294967296) : parse (textL lv st) = if lv ≤ 15 then (lv, st, 0) else (0, 0, 7) := by
  have hn := num_dec 15 lv (bits st 32) (by rw [bits_all]; exact suf_head st 32)
  have hlen : (suf st 32).length ≤ (textL lv st).length := by unfold textL; rw [← bits_all, List.length_append]; omega
  have hs := set_suf st hst 32 (by omega) (textL lv st).length hlen
  rw [show (32 - 32 : Nat) = 0 by omega, Nat.pow_zero, Nat.mod_one] at hs
  unfold parse
  rw [show num 15 (textL lv st) = _ from hn]
  by_cases h : lv ≤ 15
  · rw [if_pos h, if_neg (show ¬ 15 < lv by omega)]
    simp only [bits_all]
    rw [hs]
    simp
  · rw [if_neg h, if_pos (show 15 < lv by omega)]
    simp
theorem suf_none (st : Nat) : ∀ n, n ≤ 32 → (∀ j, 32 - n ≤ j → st.testBit j = false) → suf st n = [] := by
  intro n
  induction n with
  | zero => intro _ _; rfl
  | succ n ih =>
    intro hn h
    rw [suf, piece, if_neg (by rw [h (31 - n) (by omega)]; simp), ih (by omega) (fun j hj => h j (by omega))]
    rfl
theorem suf_skip (st : Nat) {i c : Nat} (hic : i ≤ c) (hc : c ≤ 32) (h : ∀ j, i ≤ j → j < c → st.testBit j = false) : suf st (32 - i) = suf st (32 - c) := by
  obtain ⟨d, rfl⟩ : ∃ d, c = i + d := ⟨c - i, by omega⟩
  induction d with
  | zero => rfl
  | succ d ih =>
    rw [ih (by omega) (by omega) (fun j h1 h2 => h j h1 (by omega))]
    have e : 32 - (i + d) = (32 - (i + (d + 1))) + 1 := by omega
    rw [e, suf, show 31 - (32 - (i + (d + 1))) = i + d by omega, piece, if_neg (by rw [h (i + d) (by omega) (by omega)]; simp)]
    rfl
/-- a set so far, and behind which compartment one stands -/
def At (cur i : Nat) : Prop := (cur = 0 ∧ i = 0) ∨ (0 < i ∧ 2 ^ (i - 1) ≤ cur ∧ cur < 2 ^ i)
theorem At.lt {cur i : Nat} (h : At cur i) : cur < 2 ^ i := by
  rcases h with ⟨rfl, rfl⟩ | h
  · decide
  · exact h.2.2
theorem At.le {cur i c : Nat} (h : At cur i) (hd : cur / 2 ^ c = 0) : i ≤ c := by
  rcases h with ⟨rfl, rfl⟩ | ⟨h0, h1, h2⟩
  · omega
  · rcases Nat.lt_or_ge c i with hlt | hge
    · exfalso
      have h3 : 2 ^ c ≤ 2 ^ (i - 1) := Nat.pow_le_pow_right (by decide) (by omega)
      have h4 : 1 ≤ cur / 2 ^ c := (Nat.le_div_iff_mul_le (Nat.two_pow_pos c)).2 (by omega)
      omega
    · exact hge
theorem At.div {cur i c : Nat} (h : At cur i) (hc : i ≤ c) : cur / 2 ^ c = 0 :=
  Nat.div_eq_of_lt (Nat.lt_of_lt_of_le h.lt (Nat.pow_le_pow_right (by decide) hc))
theorem At.next {cur i c : Nat} (h : At cur i) (hc : i ≤ c) : At (cur + 2 ^ c) (c + 1) := by
  have h1 : cur < 2 ^ c := Nat.lt_of_lt_of_le h.lt (Nat.pow_le_pow_right (by decide) hc)
  exact Or.inr ⟨by omega, by rw [Nat.add_sub_cancel]; omega, by rw [Nat.pow_succ]; omega⟩
theorem set_text : ∀ (f cur i : Nat) (l : List UInt8) (st : Nat), i ≤ 32 → At cur i → set f cur l = (st, 0) → l = suf st (32 - i) ∧ st % 2 ^ i = cur := by
  intro f
  induction f with
  | zero =>
    intro cur i l st hi ha h
    cases l with
    | nil =>
      rw [set_nil] at h
      obtain rfl := (Prod.mk.inj h).1
      refine ⟨(suf_none cur (32 - i) (by omega) (fun j hj => Nat.testBit_lt_two_pow (Nat.lt_of_lt_of_le ha.lt (Nat.pow_le_pow_right (by decide) (by omega))))).symm, Nat.mod_eq_of_lt ha.lt⟩
    | cons b l => simp [set] at h
  | succ f ih =>
    intro cur i l st hi ha h
    cases l with
    | nil =>
      rw [set_nil] at h
      obtain rfl := (Prod.mk.inj h).1
      refine ⟨(suf_none cur (32 - i) (by omega) (fun j hj => Nat.testBit_lt_two_pow (Nat.lt_of_lt_of_le ha.lt (Nat.pow_le_pow_right (by decide) (by omega))))).symm, Nat.mod_eq_of_lt ha.lt⟩
    | cons b l =>
      by_cases hb : b = 58
      · subst hb
        by_cases h1 : (num 31 l).2.2 = 0
        · by_cases h2 : cur / 2 ^ (num 31 l).1 = 0
          · rw [set_next h1 h2] at h
            have hc := num_le 31 l
            have hle := ha.le h2
            obtain ⟨hr, hm⟩ := ih _ ((num 31 l).1 + 1) _ st (by omega) (ha.next hle) h
            have ht := num_text h1
            generalize (num 31 l).1 = c at *
            generalize (num 31 l).2.1 = r at *
            have hlt : cur < 2 ^ c := Nat.lt_of_lt_of_le ha.lt (Nat.pow_le_pow_right (by decide) hle)
            have hbit : ∀ j, j ≤ c → st.testBit j = (cur + 2 ^ c).testBit j := by
              intro j hj
              rw [← hm, Nat.testBit_mod_two_pow]
              simp [show j < c + 1 by omega]
            have hbc : st.testBit c = true := by
              rw [hbit c (Nat.le_refl _), Nat.add_comm, Nat.testBit_two_pow_add_eq, Nat.testBit_lt_two_pow hlt]; rfl
            have hbj : ∀ j, i ≤ j → j < c → st.testBit j = false := by
              intro j h3 h4
              rw [hbit j (by omega), Nat.add_comm, Nat.testBit_two_pow_add_gt h4]
              exact Nat.testBit_lt_two_pow (Nat.lt_of_lt_of_le ha.lt (Nat.pow_le_pow_right (by decide) h3))
            refine ⟨?_, ?_⟩
            · rw [suf_skip st hle (by omega) hbj, show 32 - c = (31 - c) + 1 by omega, suf, show 31 - (31 - c) = c by omega, piece, if_pos hbc, ht, hr, show 32 - (c + 1) = 31 - c by omega]
              rfl
            · have e : st % 2 ^ i = st % 2 ^ (c + 1) % 2 ^ i := by
                rw [Nat.mod_mod_of_dvd _ (Nat.pow_dvd_pow 2 (by omega))]
              rw [e, hm, show 2 ^ c = 2 ^ i * 2 ^ (c - i) by rw [← Nat.pow_add]; congr 1; omega, Nat.add_mul_mod_self_left, Nat.mod_eq_of_lt ha.lt]
          · rw [set_there h1 h2] at h; simp at h
        · rw [set_num h1] at h
          exact absurd (Prod.mk.inj h).2 h1
      · rw [set_colon hb] at h; simp at h
theorem text_parse {l : List UInt8} (h : (parse l).2.2 = 0) : textL (parse l).1 (parse l).2.1 = l := by
  by_cases h1 : (num 15 l).2.2 = 0
  · by_cases h2 : (set l.length 0 (num 15 l).2.1).2 = 0
    · have e : parse l = ((num 15 l).1, (set l.length 0 (num 15 l).2.1).1, 0) := by unfold parse; rw [if_neg (by omega), if_neg (by omega)]
      rw [e]
      have ht := num_text h1
      have hs := set_text l.length 0 0 (num 15 l).2.1 _ (by omega) (Or.inl ⟨rfl, rfl⟩) (Prod.ext rfl h2)
      show decDigits (num 15 l).1 ++ bits _ 32 = l
      rw [bits_all, ← hs.1, ← ht]
    · unfold parse at h
      rw [if_neg (by omega), if_pos h2] at h
      exact absurd h h2
  · unfold parse at h
    rw [if_pos h1] at h
    exact absurd h h1
theorem parse_bound (l : List UInt8) : (parse l).1 ≤ 15 ∧ (parse l).2.1 < 4294967296 ∧ (parse l).2.2 ≤ 7 := by
  have h1 := num_le 15 l
  have h2 := set_lt l.length 0 (num 15 l).2.1 (by omega)
  have h3 := num_code 15 l
  unfold parse
  split
  · exact ⟨by simp, by simp, h3⟩
  · split
    · exact ⟨by simp, by simp, h2.2⟩
    · exact ⟨h1, h2.1, by simp⟩

/-! ### the number as the document counts it -/
def acc (most : Nat) (l : List UInt8) : Nat := l.foldl (fun n b => if n ≤ most then n * 10 + (b.toNat - 48) else n) 0
theorem acc_snoc (most : Nat) (l : List UInt8) (b : UInt8) : acc most (l ++ [b]) = if acc most l ≤ most then acc most l * 10 + (b.toNat - 48) else acc most l := by unfold acc; rw [List.foldl_append]; rfl
theorem acc_val (most : Nat) (l : List UInt8) (hd : ∀ b ∈ l, dig b = true) : (val l ≤ most ∧ acc most l = val l) ∨ (most < val l ∧ most < acc most l ∧ acc most l ≤ 10 * most + 9) := by
  induction l using Oct.snoc_ind with
  | h0 => exact Or.inl ⟨by simp [val], rfl⟩
  | h1 l b ih =>
    have hb := dig_bounds (hd b (by simp))
    have hi := ih (fun x hx => hd x (by simp [hx]))
    rw [val_snoc, acc_snoc]
    rcases hi with ⟨h1, h2⟩ | ⟨h1, h2, h3⟩
    · rw [if_pos (by omega), h2]
      by_cases h : 10 * val l + (b.toNat - 48) ≤ most
      · exact Or.inl ⟨h, by omega⟩
      · exact Or.inr ⟨by omega, by omega, by omega⟩
    · rw [if_neg (by omega)]
      exact Or.inr ⟨by omega, h2, h3⟩
theorem dec_le2 {u : Nat} (h : u < 100) : (decDigits u).length ≤ 2 := by
  by_cases h1 : u < 10
  · rw [dec_small h1]; simp
  · rw [dec_big h1, dec_small (by omega)]; simp
theorem dec_le3 {u : Nat} (h : u < 1000) : (decDigits u).length ≤ 3 := by
  by_cases h1 : u < 10
  · rw [dec_small h1]; simp
  · have := dec_le2 (u := u / 10) (by omega)
    rw [dec_big h1, List.length_append, List.length_singleton]; omega
theorem piece_le (st : Nat) {i : Nat} (h : i < 32) : (piece st i).length ≤ 3 := by
  have := dec_le2 (u := i) (by omega)
  unfold piece
  split
  · rw [List.length_cons]; omega
  · simp
theorem bits_le (st : Nat) : ∀ k, k ≤ 32 → (bits st k).length ≤ 3 * k := by
  intro k
  induction k with
  | zero => intro _; simp [bits]
  | succ k ih =>
    intro h
    have h1 := piece_le st (i := k) (by omega)
    have h2 := ih (by omega)
    rw [bits, List.length_append]; omega
end Go.Proofs.YtokljdaofjgihaaGreatDoor.Lat
