/-
  PLAIN: what a frame's body is made of: numbers, yes or no, texts, heads; read behind they were written, and written behind they were read. No program is spoken of here.
-/
import Derived.Test.YtnamkglflhkckaaDoorRr05

section
namespace Go.Proofs.YtnamkglflhkckaaDoor.Pt
/-- a yes or no that comes next -/
def yesOut (s : LSt) : Bool := Oct.val (lOut s.1 1) == 1
def yesIn (s : LSt) : LSt := if 1 < Oct.val (lOut s.1 1) then lFail (lRaw s 1) 4 else lRaw s 1
def yesEnc (b : Bool) : List UInt8 := if b then [1] else [0]
theorem lOk_yes {s : LSt} (h : lOk s) : lOk (yesIn s) := by
  unfold yesIn
  split
  · exact lOk_fail (lOk_raw h _) _
  · exact lOk_raw h _

/-! ### written, then read -/
/-! ### read, then written -/
theorem raw_back {s : LSt} {n : Nat} (hok : lOk s) (h : (lRaw s n).2 = 0) : s = (lOut s.1 n ++ (lRaw s n).1, 0) ∧ (lOut s.1 n).length = n := by
  obtain ⟨r, e⟩ := s
  unfold lRaw at h ⊢
  simp only at h ⊢
  by_cases hn : r.length < n
  · rw [if_pos hn] at h
    simp only at h
    split at h
    · exact absurd h (by decide)
    · exact absurd h (by assumption)
  · rw [if_neg hn] at h ⊢
    simp only at h ⊢
    subst h
    rw [lOut_of (by omega), List.take_append_drop]
    exact ⟨rfl, by rw [List.length_take]; omega⟩
theorem num_back {s : LSt} {n : Nat} (hok : lOk s) (h : (lRaw s n).2 = 0) : s = (Oct.be n (Oct.val (lOut s.1 n)) ++ (lRaw s n).1, 0) := by
  obtain ⟨h1, h2⟩ := raw_back hok h
  have := Oct.be_val (lOut s.1 n)
  rw [h2] at this
  rw [this]
  exact h1
theorem fail_back {s : LSt} {c : Int} (h : (lFail s c).2 = 0) : lFail s c = s ∧ c = 0 := by
  have := Hd.lFail_zero h
  exact ⟨this.2.2, this.1⟩
theorem yes_back {s : LSt} (hok : lOk s) (h : (yesIn s).2 = 0) : s = (yesEnc (yesOut s) ++ (yesIn s).1, 0) := by
  unfold yesIn at h ⊢
  by_cases h1 : 1 < Oct.val (lOut s.1 1)
  · rw [if_pos h1] at h
    exact absurd (fail_back h).2 (by decide)
  · rw [if_neg h1] at h ⊢
    have hb := num_back hok h
    have e : Oct.be 1 (Oct.val (lOut s.1 1)) = yesEnc (yesOut s) := by
      unfold yesOut
      have : Oct.val (lOut s.1 1) = 0 ∨ Oct.val (lOut s.1 1) = 1 := by omega
      rcases this with h | h <;> rw [h] <;> rfl
    rw [e] at hb
    exact hb
theorem text_back {s : LSt} {m : Nat} (hok : lOk s) (h : (lText s m).2 = 0) : s = (Oct.text (lTextOut s m) ++ (lText s m).1, 0) ∧ (lTextOut s m).length ≤ m := by
  unfold lText at h
  obtain ⟨h1, h2⟩ := raw_back (lOk_mid hok m) h
  have hm : (lMid s m).2 = 0 := by rw [h1]
  unfold lMid at hm h1 h2
  unfold lText lTextOut lMid
  by_cases hl : (m : Int) < (lLen s : Int)
  · rw [if_pos hl] at hm
    exact absurd (fail_back hm).2 (by decide)
  · rw [if_neg hl] at hm h1 h2 ⊢
    have hb := num_back hok hm
    refine ⟨?_, by omega⟩
    unfold Oct.text
    rw [h2, List.append_assoc]
    have h3 : (lRaw s 2).1 = lOut (lRaw s 2).1 (lLen s) ++ (lRaw (lRaw s 2) (lLen s)).1 := congrArg Prod.fst h1
    rw [← h3]
    exact hb
theorem be8_i64 {n : Nat} (h : n < 18446744073709551616) : Hd.n64 (Hd.i64 n) = n := by
  unfold Hd.n64 Hd.i64
  split <;> omega
theorem chain {s s1 s2 s3 : LSt} {a b c : List UInt8} (h1 : s = (a ++ s1.1, 0)) (h2 : s1 = (b ++ s2.1, 0)) (h3 : s2 = (c ++ s3.1, 0)) : s = (a ++ b ++ c ++ s3.1, 0) := by
  have e1 := congrArg Prod.fst h2
  have e2 := congrArg Prod.fst h3
  simp only at e1 e2
  rw [h1, e1, e2]
  simp [List.append_assoc]
theorem penc0 (k : List UInt8) (v : Nat) (h : v < 18446744073709551616) : Hd.penc ⟨k, 0, Hd.i64 v, []⟩ = Oct.text k ++ Oct.be 1 0 ++ Oct.be 8 v := by
  unfold Hd.penc Hd.pbody
  rw [if_pos rfl, be8_i64 h]
theorem penc1 (k x : List UInt8) : Hd.penc ⟨k, 1, 0, x⟩ = Oct.text k ++ Oct.be 1 1 ++ Oct.text x := by
  unfold Hd.penc Hd.pbody
  rw [if_neg (show ¬ (1 : Nat) = 0 by decide), if_pos rfl]
theorem penc2 (k : List UInt8) (v : Nat) (h : v < 18446744073709551616) : Hd.penc ⟨k, 2, Hd.i64 v, []⟩ = Oct.text k ++ Oct.be 1 2 ++ Oct.be 1 v := by
  unfold Hd.penc Hd.pbody
  rw [if_neg (show ¬ (2 : Nat) = 0 by decide), if_neg (show ¬ (2 : Nat) = 1 by decide), be8_i64 h]
theorem rd1_back {s : LSt} (hok : lOk s) (h : (Hd.rd1 s).2.2 = 0) : s = (Hd.penc (Hd.rd1 s).1 ++ (Hd.rd1 s).2.1, 0) := by
  have k1 := lOk_text hok 16
  have k2 := lOk_raw k1 1
  have fin : ∀ (c : Nat) (b : List UInt8) (s3 : LSt), Oct.val (lOut (lText s 16).1 1) = c → (lRaw (lText s 16) 1) = (b ++ s3.1, 0) → s = (Oct.text (lTextOut s 16) ++ Oct.be 1 c ++ b ++ s3.1, 0) := by
    intro c b s3 hc hb
    subst hc
    have h2 := num_back k1 (show (lRaw (lText s 16) 1).2 = 0 by rw [hb])
    have h1 := (text_back (m := 16) hok (show (lText s ((16 : Nat) : Int)).2 = 0 by rw [show ((16 : Nat) : Int) = 16 from rfl, h2])).1
    exact chain h1 h2 hb
  have hv8 : Oct.val (lOut (lRaw (lText s 16) 1).1 8) < 18446744073709551616 := Nat.lt_of_lt_of_le (val_out_lt _ 8) (by decide)
  have hv1 : Oct.val (lOut (lRaw (lText s 16) 1).1 1) < 18446744073709551616 := Nat.lt_of_lt_of_le (val_out_lt _ 1) (by decide)
  by_cases c0 : Oct.val (lOut (lText s 16).1 1) = 0
  · have e : Hd.rd1 s = (⟨lTextOut s 16, 0, Hd.i64 (Oct.val (lOut (lRaw (lText s 16) 1).1 8)), []⟩, lRaw (lRaw (lText s 16) 1) 8) := by unfold Hd.rd1; simp only; rw [if_pos c0]
    rw [e] at h ⊢
    have hf := fin 0 _ _ c0 (num_back k2 h)
    rw [penc0 _ _ hv8]
    exact hf
  · by_cases c1 : Oct.val (lOut (lText s 16).1 1) = 1
    · have e : Hd.rd1 s = (⟨lTextOut s 16, 1, 0, lTextOut (lRaw (lText s 16) 1) 64⟩, lText (lRaw (lText s 16) 1) 64) := by unfold Hd.rd1; simp only; rw [if_neg c0, if_pos c1]
      rw [e] at h ⊢
      have hf := fin 1 _ _ c1 (text_back (m := 64) k2 h).1
      rw [penc1]
      exact hf
    · by_cases c2 : Oct.val (lOut (lText s 16).1 1) = 2
      · have e : Hd.rd1 s = (⟨lTextOut s 16, 2, Hd.i64 (Oct.val (lOut (lRaw (lText s 16) 1).1 1)), []⟩, lRaw (lRaw (lText s 16) 1) 1) := by unfold Hd.rd1; simp only; rw [if_neg c0, if_neg c1, if_pos c2]
        rw [e] at h ⊢
        have hf := fin 2 _ _ c2 (num_back k2 h)
        rw [penc2 _ _ hv1]
        exact hf
      · have e : (Hd.rd1 s).2 = lFail (lRaw (lText s 16) 1) 8 := by unfold Hd.rd1; simp only; rw [if_neg c0, if_neg c1, if_neg c2]
        rw [e] at h
        exact absurd (fail_back h).2 (by decide)
theorem rds_stop {n : Nat} {h : List Hd.Pr} {s : LSt} (hb : (lFail (Hd.rd1 s).2 (Hd.pcode (Hd.rd1 s).1 h)).2 ≠ 0) : Hd.rds (n + 1) h s = ([], lFail (Hd.rd1 s).2 (Hd.pcode (Hd.rd1 s).1 h)) := by rw [Hd.rds, if_pos hb]
theorem rds_next {n : Nat} {h : List Hd.Pr} {s : LSt} (hb : (lFail (Hd.rd1 s).2 (Hd.pcode (Hd.rd1 s).1 h)).2 = 0) : Hd.rds (n + 1) h s = Hd.rds n (h ++ [(Hd.rd1 s).1]) (Hd.rd1 s).2 := by
  rw [Hd.rds, if_neg (by omega), (fail_back hb).1]
theorem snd0 (s : LSt) (h : s.2 = 0) : s = (s.1, 0) := by
  obtain ⟨r, e⟩ := s
  have h0 : e = 0 := h
  subst h0
  rfl
theorem rds_back (n : Nat) : ∀ (h : List Hd.Pr) (s : LSt), lOk s → (Hd.rds n h s).2.2 = 0 → ∃ m, (Hd.rds n h s).1 = h ++ m ∧ m.length = n ∧ s = (m.flatMap Hd.penc ++ (Hd.rds n h s).2.1, 0) := by
  induction n with
  | zero =>
    intro h s _ he
    exact ⟨[], (List.append_nil h).symm, rfl, snd0 s he⟩
  | succ n ih =>
    intro h s hok he
    by_cases hx : (lFail (Hd.rd1 s).2 (Hd.pcode (Hd.rd1 s).1 h)).2 ≠ 0
    · rw [rds_stop hx] at he
      exact absurd he hx
    · have hx0 : (lFail (Hd.rd1 s).2 (Hd.pcode (Hd.rd1 s).1 h)).2 = 0 := by omega
      rw [rds_next hx0] at he
      rw [rds_next hx0]
      rw [(fail_back hx0).1] at hx0
      have hb := rd1_back hok hx0
      have hk := Hd.lOk_rd1 hok
      clear hx hok
      generalize Hd.rd1 s = Q at *
      obtain ⟨m, h1, h2, h3⟩ := ih (h ++ [Q.1]) Q.2 hk he
      generalize Hd.rds n (h ++ [Q.1]) Q.2 = R at *
      refine ⟨Q.1 :: m, by rw [h1, List.append_assoc]; rfl, by rw [List.length_cons, h2], ?_⟩
      have e : Q.2.1 = m.flatMap Hd.penc ++ R.2.1 := congrArg Prod.fst h3
      rw [List.flatMap_cons, List.append_assoc, ← e]
      exact hb
theorem hread_back {s : LSt} (hok : lOk s) (h : (Hd.hread s).2.2 = 0) : s = (Hd.henc (Hd.hread s).1 ++ (Hd.hread s).2.1, 0) := by
  unfold Hd.hread at h ⊢
  by_cases h8 : 8 < Oct.val (lOut s.1 1)
  · rw [if_pos h8] at h
    exact absurd (fail_back h).2 (by decide)
  · rw [if_neg h8] at h ⊢
    obtain ⟨m, h1, h2, h3⟩ := rds_back _ _ _ (lOk_raw hok 1) h
    have hb := num_back hok (show (lRaw s 1).2 = 0 by rw [h3])
    rw [List.nil_append] at h1
    have e := congrArg Prod.fst h3
    generalize Hd.rds (Oct.val (lOut s.1 1)) [] (lRaw s 1) = R at *
    simp only at e
    unfold Hd.henc
    rw [h1, h2, List.append_assoc, ← e]
    exact hb
end Go.Proofs.YtnamkglflhkckaaDoor.Pt
end
