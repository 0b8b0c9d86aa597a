/-
  PLAIN: heads: pairs, what may be, their bytes, what is read. No program is spoken of here.
-/
import Derived.Test.YtaikigponkjkgaaGreatDoorDs01
import Derived.Test.YtaikigponkjkgaaGreatDoorDs03

section
namespace Go.Proofs.YtaikigponkjkgaaGreatDoor.Hd
structure Pr where
  key : List UInt8
  kind : Nat
  num : Int
  txt : List UInt8
deriving DecidableEq
def Pr.zero : Pr := ⟨[], 0, 0, []⟩
def pr (l : List Pr) (i : Nat) : Pr := l.getD i Pr.zero
theorem pr_at {l : List Pr} {i : Nat} (h : i < l.length) : pr l i = l[i] := by unfold pr; rw [List.getD_eq_getElem?_getD, List.getElem?_eq_getElem h]; rfl
/-- numbers that their types hold -/
structure Fits (p : Pr) : Prop where
  kind : p.kind < 256
  lo : -9223372036854775808 ≤ p.num
  hi : p.num < 9223372036854775808
theorem Fits.zero : Fits Pr.zero := ⟨by decide, by decide, by decide⟩

/-- the first of n codes that isn't 0 -/
def scan (f : Nat → Nat) : Nat → Nat
  | 0 => 0
  | n + 1 => if scan f n ≠ 0 then scan f n else f n
theorem scan_zero {f : Nat → Nat} {n : Nat} (h : ∀ i, i < n → f i = 0) : scan f n = 0 := by
  induction n with
  | zero => rfl
  | succ n ih =>
    have h1 := ih fun i hi => h i (by omega)
    rw [scan, if_neg (by rw [h1]; simp), h n (by omega)]
theorem scan_at {f : Nat → Nat} {n k : Nat} (hk : k < n) (h : ∀ i, i < k → f i = 0) (hf : f k ≠ 0) : scan f n = f k := by
  induction n with
  | zero => omega
  | succ n ih =>
    by_cases e : k = n
    · subst e
      rw [scan, if_neg (by rw [scan_zero h]; simp)]
    · have := ih (by omega)
      rw [scan, if_pos (by rw [this]; exact hf), this]
theorem scan_none {f : Nat → Nat} {n : Nat} (h : scan f n = 0) : ∀ i, i < n → f i = 0 := by
  induction n with
  | zero => intro i hi; omega
  | succ n ih =>
    rw [scan] at h
    by_cases h1 : scan f n = 0
    · rw [if_neg (by rw [h1]; simp)] at h
      intro i hi
      by_cases e : i = n
      · rw [e]; exact h
      · exact ih h1 i (by omega)
    · rw [if_pos h1] at h; exact absurd h h1

/-- is a pair of that key there? -/
def there (l : List Pr) (k : List UInt8) : Bool := l.any fun q => q.key == k
/-- what is wrong with a pair by itself -/
def bad (p : Pr) : Nat :=
  if Wrd.nameCode p.key ≠ 0 then Wrd.nameCode p.key else
  if 2 < p.kind then 8 else
  if p.kind = 1 ∧ 64 < p.txt.length then 5 else
  if p.kind = 2 ∧ p.num ≠ 0 ∧ p.num ≠ 1 then 7 else
  if (p.kind ≠ 1 ∧ p.txt ≠ []) ∨ (p.kind = 1 ∧ p.num ≠ 0) then 4 else 0
/-- what is wrong with a pair behind others -/
def pcode (p : Pr) (ahead : List Pr) : Nat := if bad p ≠ 0 then bad p else if there ahead p.key then 9 else 0
/-- what is wrong with a head -/
def hcode (l : List Pr) : Nat := if 8 < l.length then 6 else scan (fun i => pcode (pr l i) (l.take i)) l.length

/-- a number modulo 2^64 -/
def n64 (n : Int) : Nat := (n % 18446744073709551616).toNat
/-- and back -/
def i64 (n : Nat) : Int := if n < 9223372036854775808 then n else (n : Int) - 18446744073709551616
theorem n64_lt (n : Int) : n64 n < 18446744073709551616 := by unfold n64; omega
theorem n64_cast (n : Int) : ((n64 n : Nat) : Int) = n % 18446744073709551616 := by unfold n64; omega
theorem i64_n64 {n : Int} (h1 : -9223372036854775808 ≤ n) (h2 : n < 9223372036854775808) : i64 (n64 n) = n := by
  unfold i64 n64
  split <;> omega
/-- what stands behind a pair's Kind -/
def pbody (p : Pr) : List UInt8 := if p.kind = 0 then Oct.be 8 (n64 p.num) else if p.kind = 1 then Oct.text p.txt else Oct.be 1 (n64 p.num)
/-- a pair's bytes -/
def penc (p : Pr) : List UInt8 := Oct.text p.key ++ Oct.be 1 p.kind ++ pbody p
/-- a head's bytes -/
def henc (l : List Pr) : List UInt8 := Oct.be 1 l.length ++ l.flatMap penc

/-- the pair that comes next, as it is there -/
def rd1 (s : LSt) : Pr × LSt :=
  let k := lTextOut s 16
  let s1 := lText s 16
  let c := Oct.val (lOut s1.1 1)
  let s2 := lRaw s1 1
  if c = 0 then (⟨k, 0, i64 (Oct.val (lOut s2.1 8)), []⟩, lRaw s2 8)
  else if c = 1 then (⟨k, 1, 0, lTextOut s2 64⟩, lText s2 64)
  else if c = 2 then (⟨k, 2, i64 (Oct.val (lOut s2.1 1)), []⟩, lRaw s2 1)
  else (⟨k, c, 0, []⟩, lFail s2 8)
/-- the pairs that come next, behind others -/
def rds : Nat → List Pr → LSt → List Pr × LSt
  | 0, h, s => (h, s)
  | n + 1, h, s =>
    if (lFail (rd1 s).2 (pcode (rd1 s).1 h)).2 ≠ 0 then ([], lFail (rd1 s).2 (pcode (rd1 s).1 h))
    else rds n (h ++ [(rd1 s).1]) (lFail (rd1 s).2 (pcode (rd1 s).1 h))
/-- the head that comes next -/
def hread (s : LSt) : List Pr × LSt :=
  if 8 < Oct.val (lOut s.1 1) then ([], lFail (lRaw s 1) 6) else rds (Oct.val (lOut s.1 1)) [] (lRaw s 1)
theorem lFail_ok (s : LSt) : lFail s 0 = s := by unfold lFail; rw [if_pos (Or.inl rfl)]
theorem lOk_rd1 {s : LSt} (h : lOk s) : lOk (rd1 s).2 := by
  unfold rd1
  simp only
  split
  · exact lOk_raw (lOk_raw (lOk_text h _) _) _
  · split
    · exact lOk_text (lOk_raw (lOk_text h _) _) _
    · split
      · exact lOk_raw (lOk_raw (lOk_text h _) _) _
      · exact lOk_fail (lOk_raw (lOk_text h _) _) _
theorem lOk_rds (n : Nat) : ∀ (h : List Pr) (s : LSt), lOk s → lOk (rds n h s).2 := by
  induction n with
  | zero => intro h s hs; exact hs
  | succ n ih =>
    intro h s hs
    have h1 := lOk_fail (lOk_rd1 hs) (pcode (rd1 s).1 h)
    by_cases hx : (lFail (rd1 s).2 (pcode (rd1 s).1 h)).2 ≠ 0
    · rw [rds, if_pos hx]; dsimp only; exact h1
    · rw [rds, if_neg hx]; exact ih _ _ h1
theorem lOk_hread {s : LSt} (h : lOk s) : lOk (hread s).2 := by
  unfold hread
  split
  · exact lOk_fail (lOk_raw h _) _
  · exact lOk_rds _ _ _ (lOk_raw h _)

/-! ### what was written is read -/
theorem lOut_front (a r : List UInt8) (n : Nat) (h : a.length = n) : lOut (a ++ r) n = a := by
  rw [lOut_of (by rw [List.length_append]; omega), List.take_left' h]
theorem lRaw_front (a r : List UInt8) (e : Int) (n : Nat) (h : a.length = n) : lRaw (a ++ r, e) n = (r, e) := by
  rw [lRaw_of (by rw [List.length_append]; omega), List.drop_left' h]
theorem val_be_at (k n : Nat) (h : n < 256 ^ k) : Oct.val (Oct.be k n) = n := by rw [Oct.val_be, Nat.mod_eq_of_lt h]
theorem text_front (x r : List UInt8) (m : Nat) (hx : x.length ≤ m) (hm : m < 65536) : lTextOut (Oct.text x ++ r, 0) m = x ∧ lText (Oct.text x ++ r, 0) m = (r, 0) := by
  have e : Oct.text x ++ r = Oct.be 2 x.length ++ (x ++ r) := by unfold Oct.text; rw [List.append_assoc]
  have h1 : lLen (Oct.text x ++ r, 0) = x.length := by
    unfold lLen
    rw [e, lOut_front _ _ 2 (Oct.length_be _ _), val_be_at 2 _ (by show x.length < 65536; omega)]
  have h2 : lMid (Oct.text x ++ r, 0) m = (x ++ r, 0) := by
    unfold lMid
    rw [h1, if_neg (by omega), e, lRaw_front _ _ _ 2 (Oct.length_be _ _)]
  unfold lTextOut lText
  rw [h1, h2]
  exact ⟨lOut_front _ _ _ rfl, lRaw_front _ _ _ _ rfl⟩
theorem bad_ok {p : Pr} (h : bad p = 0) : Wrd.nameCode p.key = 0 ∧ p.kind ≤ 2 ∧ (p.kind = 1 → p.txt.length ≤ 64 ∧ p.num = 0) ∧ (p.kind = 2 → p.num = 0 ∨ p.num = 1) ∧ (p.kind ≠ 1 → p.txt = []) := by
  unfold bad at h
  by_cases h1 : Wrd.nameCode p.key = 0
  · rw [if_neg (by omega)] at h
    by_cases h2 : 2 < p.kind
    · rw [if_pos h2] at h; omega
    · rw [if_neg h2] at h
      by_cases h3 : p.kind = 1 ∧ 64 < p.txt.length
      · rw [if_pos h3] at h; omega
      · rw [if_neg h3] at h
        by_cases h4 : p.kind = 2 ∧ p.num ≠ 0 ∧ p.num ≠ 1
        · rw [if_pos h4] at h; omega
        · rw [if_neg h4] at h
          by_cases h5 : (p.kind ≠ 1 ∧ p.txt ≠ []) ∨ (p.kind = 1 ∧ p.num ≠ 0)
          · rw [if_pos h5] at h; omega
          · refine ⟨h1, by omega, fun hk => ⟨by omega, ?_⟩, fun hk => by omega, fun hk => ?_⟩
            · exact Decidable.byContradiction fun hn => h5 (Or.inr ⟨hk, hn⟩)
            · exact Decidable.byContradiction fun hn => h5 (Or.inl ⟨hk, hn⟩)
  · rw [if_pos h1] at h; exact absurd h h1
theorem name_ok_len {k : List UInt8} (h : Wrd.nameCode k = 0) : k.length ≤ 16 ∧ k ≠ [] := by
  unfold Wrd.nameCode at h
  by_cases h0 : k.length = 0
  · rw [if_pos h0] at h; omega
  · rw [if_neg h0] at h
    by_cases h1 : 16 < k.length
    · rw [if_pos h1] at h; omega
    · exact ⟨by omega, fun e => h0 (by rw [e]; rfl)⟩
theorem pcode_ok {p : Pr} {l : List Pr} (h : pcode p l = 0) : bad p = 0 ∧ there l p.key = false := by
  unfold pcode at h
  by_cases h1 : bad p = 0
  · rw [if_neg (by omega)] at h
    refine ⟨h1, ?_⟩
    cases ht : there l p.key with
    | false => rfl
    | true => rw [ht] at h; simp at h
  · rw [if_pos h1] at h; exact absurd h h1
theorem rd1_penc {p : Pr} (hf : Fits p) (h : bad p = 0) (r : List UInt8) : rd1 (penc p ++ r, 0) = (p, (r, 0)) := by
  obtain ⟨h1, h2, h3, h4, h5⟩ := bad_ok h
  obtain ⟨hl, -⟩ := name_ok_len h1
  have e : penc p ++ r = Oct.text p.key ++ (Oct.be 1 p.kind ++ (pbody p ++ r)) := by unfold penc; simp [List.append_assoc]
  obtain ⟨t1, t2⟩ := text_front p.key (Oct.be 1 p.kind ++ (pbody p ++ r)) 16 hl (by decide)
  have v1 : Oct.val (lOut (Oct.be 1 p.kind ++ (pbody p ++ r)) 1) = p.kind := by
    rw [lOut_front _ _ 1 (Oct.length_be _ _), val_be_at 1 _ (by show p.kind < 256; exact hf.kind)]
  have v2 : lRaw (Oct.be 1 p.kind ++ (pbody p ++ r), 0) 1 = (pbody p ++ r, 0) := lRaw_front _ _ _ 1 (Oct.length_be _ _)
  unfold rd1
  simp only
  have c16 : ((16 : Nat) : Int) = 16 := rfl
  rw [e]
  rw [c16] at t1 t2
  rw [t2, t1, v1, v2]
  obtain ⟨pk, pd, pn, pt⟩ := p
  simp only at h2 h3 h4 h5 ⊢
  by_cases k0 : pd = 0
  · subst k0
    have ht := h5 (by decide)
    rw [if_pos rfl]
    have eb : pbody ⟨pk, 0, pn, pt⟩ = Oct.be 8 (n64 pn) := rfl
    simp only [eb]
    rw [lOut_front _ _ 8 (Oct.length_be _ _), val_be_at 8 _ (n64_lt _), lRaw_front _ _ _ 8 (Oct.length_be _ _), i64_n64 hf.lo hf.hi, ht]
  · rw [if_neg k0]
    by_cases k1 : pd = 1
    · subst k1
      obtain ⟨hx, hn⟩ := h3 rfl
      obtain ⟨u1, u2⟩ := text_front pt r 64 hx (by decide)
      rw [if_pos rfl]
      have eb : pbody ⟨pk, 1, pn, pt⟩ = Oct.text pt := rfl
      simp only [eb]
      have c64 : ((64 : Nat) : Int) = 64 := rfl
      rw [c64] at u1 u2
      rw [u1, u2, hn]
    · have k2 : pd = 2 := by omega
      subst k2
      have ht := h5 (by decide)
      rw [if_neg (by decide), if_pos rfl]
      have eb : pbody ⟨pk, 2, pn, pt⟩ = Oct.be 1 (n64 pn) := rfl
      simp only [eb]
      have hn : n64 pn < 256 := by rcases h4 rfl with h | h <;> rw [h] <;> decide
      rw [lOut_front _ _ 1 (Oct.length_be _ _), val_be_at 1 _ hn, lRaw_front _ _ _ 1 (Oct.length_be _ _), i64_n64 hf.lo hf.hi, ht]
theorem rds_flat : ∀ (l h : List Pr) (r : List UInt8), (∀ p ∈ l, Fits p) → (∀ i, i < l.length → pcode (pr l i) (h ++ l.take i) = 0) → rds l.length h (l.flatMap penc ++ r, 0) = (h ++ l, (r, 0))
  | [], h, r, _, _ => by simp [rds]
  | p :: l, h, r, hf, hc => by
    have c0 := hc 0 (by simp)
    have c0' : pcode p h = 0 := by simpa [pr] using c0
    have b0 := (pcode_ok c0').1
    have e : (p :: l).flatMap penc ++ r = penc p ++ (l.flatMap penc ++ r) := by simp [List.flatMap_cons, List.append_assoc]
    rw [List.length_cons, rds, e, rd1_penc (hf p (by simp)) b0]
    simp only
    rw [c0', show ((0 : Nat) : Int) = 0 from rfl, lFail_ok, if_neg (by simp)]
    rw [rds_flat l (h ++ [p]) r (fun q hq => hf q (by simp [hq])) (fun i hi => by
      have := hc (i + 1) (by simp; omega)
      simpa [pr, List.append_assoc] using this)]
    simp
theorem hcode_ok {l : List Pr} (h : hcode l = 0) : l.length ≤ 8 ∧ ∀ i, i < l.length → pcode (pr l i) (l.take i) = 0 := by
  unfold hcode at h
  by_cases h8 : 8 < l.length
  · rw [if_pos h8] at h; omega
  · rw [if_neg h8] at h
    exact ⟨by omega, scan_none h⟩
/-- what was written is read as it was, and nothing is left of it -/
theorem hread_henc {l : List Pr} (hf : ∀ p ∈ l, Fits p) (h : hcode l = 0) (r : List UInt8) : hread (henc l ++ r, 0) = (l, (r, 0)) := by
  obtain ⟨h8, hc⟩ := hcode_ok h
  have e : henc l ++ r = Oct.be 1 l.length ++ (l.flatMap penc ++ r) := by unfold henc; rw [List.append_assoc]
  have v : Oct.val (lOut (Oct.be 1 l.length ++ (l.flatMap penc ++ r)) 1) = l.length := by
    rw [lOut_front _ _ 1 (Oct.length_be _ _), val_be_at 1 _ (by show l.length < 256; omega)]
  unfold hread
  simp only
  rw [e, v, if_neg (by omega), lRaw_front _ _ _ 1 (Oct.length_be _ _), rds_flat l [] r hf (fun i hi => by simpa using hc i hi)]
  simp
/-- whatever is read fits -/
theorem rd1_fits (s : LSt) : Fits (rd1 s).1 := by
  have h8 : ∀ r, Oct.val (lOut r 8) < 18446744073709551616 := fun r => Nat.lt_of_lt_of_le (val_out_lt r 8) (by decide)
  have h1 : ∀ r, Oct.val (lOut r 1) < 256 := fun r => Nat.lt_of_lt_of_le (val_out_lt r 1) (by decide)
  unfold rd1
  simp only
  split
  · have := h8 (lRaw (lText s 16) 1).1
    exact ⟨by simp, by simp only [i64]; split <;> omega, by simp only [i64]; split <;> omega⟩
  · split
    · exact ⟨by simp, by simp, by simp⟩
    · split
      · have := h1 (lRaw (lText s 16) 1).1
        exact ⟨by simp, by simp only [i64]; split <;> omega, by simp only [i64]; split <;> omega⟩
      · exact ⟨h1 _, by simp, by simp⟩
theorem rds_fits : ∀ (n : Nat) (h : List Pr) (s : LSt), (∀ p ∈ h, Fits p) → ∀ p ∈ (rds n h s).1, Fits p
  | 0, _, _, hf => hf
  | n + 1, h, s, hf => by
    unfold rds
    split
    · intro p hp; simp at hp
    · refine rds_fits n _ _ fun p hp => ?_
      rcases List.mem_append.1 hp with hp | hp
      · exact hf p hp
      · rw [List.mem_singleton] at hp; subst hp; exact rd1_fits s
theorem hread_fits (s : LSt) : ∀ p ∈ (hread s).1, Fits p := by
  unfold hread
  split
  · intro p hp; simp at hp
  · exact rds_fits _ _ _ fun p hp => by simp at hp
theorem rds_len : ∀ (n : Nat) (h : List Pr) (s : LSt), (rds n h s).1.length ≤ h.length + n
  | 0, _, _ => Nat.le_refl _
  | n + 1, h, s => by
    unfold rds
    split
    · simp
    · have := rds_len n (h ++ [(rd1 s).1]) (lFail (rd1 s).2 (pcode (rd1 s).1 h))
      rw [List.length_append, List.length_singleton] at this
      omega
theorem hread_len (s : LSt) : (hread s).1.length ≤ 8 := by
  unfold hread
  split
  · simp
  · have := rds_len (Oct.val (lOut s.1 1)) [] (lRaw s 1)
    simp at this
    omega
end Go.Proofs.YtaikigponkjkgaaGreatDoor.Hd
end
