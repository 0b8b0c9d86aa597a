/-
  OCTET's OTHER CALLS, walked: a text that is read, what is left, the error; a text that is too long. PLAIN: a list of bytes as a text. No program is spoken of here. OCTET's CALLS over lists of bytes: what is written, what is read. PLAIN: heads: pairs, what may be, their bytes, what is read. No program is spoken of here.
-/
import Derived.Test.YtecjngodfciokaaGreatDoorDp01
import Derived.Test.YtecjngodfciokaaGreatDoorDp02
import Derived.WalkKit
section
namespace Go.Proofs.YtecjngodfciokaaGreatDoor
open Go.ChangeShapes Go.WideShapes Go.ChangeAt Go.RowKit
/-- what an object that reads has: what is left, and the error -/
abbrev St := ByteArray × Int
def St.ok (s : St) : Prop := s.2 ≠ 0 → s.1 = ByteArray.empty
/-! ### the examples -/
end Go.Proofs.YtecjngodfciokaaGreatDoor
end
section
namespace Go.Proofs.YtecjngodfciokaaGreatDoor
/-- bytes as a text -/
def ofL (l : List UInt8) : ByteArray := ⟨l.toArray⟩
theorem ofL_toList (s : ByteArray) : ofL s.data.toList = s := by
  unfold ofL; rw [Array.toArray_toList]
theorem ofL_size (l : List UInt8) : (ofL l).size = l.length := by
  show l.toArray.size = _; rw [List.size_toArray]
theorem list_extract (s : ByteArray) (i j : Nat) : (s.extract i j).data.toList = (s.data.toList.drop i).take (j - i) := by
  rw [ByteArray.data_extract, Array.toList_extract, List.extract_eq_take_drop]
theorem extract_drop (s : ByteArray) (k : Nat) : s.extract k s.size = ofL (s.data.toList.drop k) := by
  rw [← ofL_toList (s.extract k s.size), list_extract, List.take_of_length_le]
  rw [List.length_drop]; exact Nat.le_refl _
theorem ofL_app (a b : List UInt8) : ofL a ++ ofL b = ofL (a ++ b) := by
  apply ByteArray.ext
  rw [ByteArray.data_append]
  show a.toArray ++ b.toArray = (a ++ b).toArray
  simp
theorem ofL_str (x : List UInt8) : (ofL x).toList = x := by rw [ByteArray.toList_eq]; rfl
end Go.Proofs.YtecjngodfciokaaGreatDoor
end
section
namespace Go.Proofs.YtecjngodfciokaaGreatDoor
open Go.ChangeShapes Go.WideShapes Go.ChangeAt Go.RowKit
/-! ### what a reader has, as lists -/
abbrev LSt := List UInt8 × Int
def lOut (r : List UInt8) (n : Nat) : List UInt8 := if r.length < n then [] else r.take n
def lRaw (s : LSt) (n : Nat) : LSt := if s.1.length < n then ([], if s.2 = 0 then 3 else s.2) else (s.1.drop n, s.2)
def lFail (s : LSt) (c : Int) : LSt := if c = 0 ∨ s.2 ≠ 0 then s else ([], c)
def lLen (s : LSt) : Nat := Oct.val (lOut s.1 2)
def lMid (s : LSt) (m : Int) : LSt := if m < (lLen s : Int) then lFail (lRaw s 2) 5 else lRaw s 2
def lText (s : LSt) (m : Int) : LSt := lRaw (lMid s m) (lLen s)
def lTextOut (s : LSt) (m : Int) : List UInt8 := lOut (lMid s m).1 (lLen s)
theorem lOut_le (r : List UInt8) (n : Nat) : (lOut r n).length ≤ n := by
  unfold lOut
  split
  · simp
  · rw [List.length_take]; omega
theorem val_out_lt (r : List UInt8) (n : Nat) : Oct.val (lOut r n) < 256 ^ n :=
  Nat.lt_of_lt_of_le (Oct.val_lt _) (Nat.pow_le_pow_right (n := 256) (by decide) (lOut_le r n))
/-! ### as bytes -/
/-! ### what is written -/
theorem num_l (x : List UInt8) (n k : Nat) (b : Int) (w : World) (hn : n < 18446744073709551616) (hk : k ≤ 8) (hb : b = (k : Int)) (hx : x.length ≤ 1000000) :
    Calls Tryz.prog 70 #[.agg #[.string (ofL x), .int .i64 0], .int .u64 (n : Int), .int .i64 b] w fun e w' => e = .returned (.agg #[.string (ofL (x ++ Oct.be k n)), .int .i64 0]) ∧ Below w.heap.size w w' := by
  subst hb
  have h := num_any (ofL x) 0 n (k : Int) w hn (by rw [ofL_size]; exact hx)
  rw [Oct.width_num k hk] at h
  rw [show ofL x ++ ByteArray.mk (Oct.be k n).toArray = ofL (x ++ Oct.be k n) from ofL_app _ _] at h
  exact h
theorem text_l (x s : List UInt8) (w : World) (hx : x.length ≤ 900000) (hs : s.length ≤ 65535) :
    Calls Tryz.prog 71 #[.agg #[.string (ofL x), .int .i64 0], .string (ofL s)] w fun e w' => e = .returned (.agg #[.string (ofL (x ++ (Oct.be 2 s.length ++ s))), .int .i64 0]) ∧ Below w.heap.size w w' := by
  have h := text_any (ofL x) (ofL s) 0 w (by rw [ofL_size]; exact hx) (by rw [ofL_size]; exact hs)
  have e : ofL x ++ textB (ofL s) = ofL (x ++ (Oct.be 2 s.length ++ s)) := by
    unfold textB
    rw [ofL_size, show ByteArray.mk (Oct.be 2 s.length).toArray = ofL (Oct.be 2 s.length) from rfl, ofL_app, ofL_app]
  rw [e] at h
  exact h
theorem raw_l (x s : List UInt8) (w : World) (hx : x.length ≤ 1000000) (hs : s.length ≤ 1000000) :
    Calls Tryz.prog 85 #[.agg #[.string (ofL x), .int .i64 0], .string (ofL s)] w fun e w' => e = .returned (.agg #[.string (ofL (x ++ s)), .int .i64 0]) ∧ Below w.heap.size w w' := by
  have h := raw_any (ofL x) (ofL s) 0 w (by rw [ofL_size]; exact hx) (by rw [ofL_size]; exact hs)
  rw [ofL_app] at h
  exact h
end Go.Proofs.YtecjngodfciokaaGreatDoor
end
section
namespace Go.Proofs.YtecjngodfciokaaGreatDoor.Hd
structure Pr where
  key : List UInt8
  kind : Nat
  num : Int
  txt : List UInt8
deriving DecidableEq
def Pr.zero : Pr := ⟨[], 0, 0, []⟩
def pr (l : List Pr) (i : Nat) : Pr := l.getD i Pr.zero
theorem pr_at {l : List Pr} {i : Nat} (h : i < l.length) : pr l i = l[i] := by unfold pr; rw [List.getD_eq_getElem?_getD, List.getElem?_eq_getElem h]; rfl
/-- numbers that their types hold -/
structure Fits (p : Pr) : Prop where
  kind : p.kind < 256
  lo : -9223372036854775808 ≤ p.num
  hi : p.num < 9223372036854775808
theorem Fits.zero : Fits Pr.zero := ⟨by decide, by decide, by decide⟩

/-- the first of n codes that isn't 0 -/
def scan (f : Nat → Nat) : Nat → Nat
  | 0 => 0
  | n + 1 => if scan f n ≠ 0 then scan f n else f n
theorem scan_zero {f : Nat → Nat} {n : Nat} (h : ∀ i, i < n → f i = 0) : scan f n = 0 := by
  induction n with
  | zero => rfl
  | succ n ih =>
    have h1 := ih fun i hi => h i (by omega)
    rw [scan, if_neg (by rw [h1]; simp), h n (by omega)]
theorem scan_at {f : Nat → Nat} {n k : Nat} (hk : k < n) (h : ∀ i, i < k → f i = 0) (hf : f k ≠ 0) : scan f n = f k := by
  induction n with
  | zero => omega
  | succ n ih =>
    by_cases e : k = n
    · subst e
      rw [scan, if_neg (by rw [scan_zero h]; simp)]
    · have := ih (by omega)
      rw [scan, if_pos (by rw [this]; exact hf), this]
theorem scan_none {f : Nat → Nat} {n : Nat} (h : scan f n = 0) : ∀ i, i < n → f i = 0 := by
  induction n with
  | zero => intro i hi; omega
  | succ n ih =>
    rw [scan] at h
    by_cases h1 : scan f n = 0
    · rw [if_neg (by rw [h1]; simp)] at h
      intro i hi
      by_cases e : i = n
      · rw [e]; exact h
      · exact ih h1 i (by omega)
    · rw [if_pos h1] at h; exact absurd h h1

/-- is a pair of that key there? -/
def there (l : List Pr) (k : List UInt8) : Bool := l.any fun q => q.key == k
/-- what is wrong with a pair by itself -/
def bad (p : Pr) : Nat :=
  if Wrd.nameCode p.key ≠ 0 then Wrd.nameCode p.key else
  if 2 < p.kind then 8 else
  if p.kind = 1 ∧ 64 < p.txt.length then 5 else
  if p.kind = 2 ∧ p.num ≠ 0 ∧ p.num ≠ 1 then 7 else
  if (p.kind ≠ 1 ∧ p.txt ≠ []) ∨ (p.kind = 1 ∧ p.num ≠ 0) then 4 else 0
/-- what is wrong with a pair behind others -/
def pcode (p : Pr) (ahead : List Pr) : Nat := if bad p ≠ 0 then bad p else if there ahead p.key then 9 else 0
/-- what is wrong with a head -/
def hcode (l : List Pr) : Nat := if 8 < l.length then 6 else scan (fun i => pcode (pr l i) (l.take i)) l.length

/-- a number modulo 2^64 -/
def n64 (n : Int) : Nat := (n % 18446744073709551616).toNat
/-- and back -/
def i64 (n : Nat) : Int := if n < 9223372036854775808 then n else (n : Int) - 18446744073709551616
theorem n64_lt (n : Int) : n64 n < 18446744073709551616 := by unfold n64; omega
theorem n64_cast (n : Int) : ((n64 n : Nat) : Int) = n % 18446744073709551616 := by unfold n64; omega
/-- what stands behind a pair's Kind -/
def pbody (p : Pr) : List UInt8 := if p.kind = 0 then Oct.be 8 (n64 p.num) else if p.kind = 1 then Oct.text p.txt else Oct.be 1 (n64 p.num)
/-- a pair's bytes -/
def penc (p : Pr) : List UInt8 := Oct.text p.key ++ Oct.be 1 p.kind ++ pbody p
/-- a head's bytes -/
def henc (l : List Pr) : List UInt8 := Oct.be 1 l.length ++ l.flatMap penc

/-- the pair that comes next, as it is there -/
def rd1 (s : LSt) : Pr × LSt :=
  let k := lTextOut s 16
  let s1 := lText s 16
  let c := Oct.val (lOut s1.1 1)
  let s2 := lRaw s1 1
  if c = 0 then (⟨k, 0, i64 (Oct.val (lOut s2.1 8)), []⟩, lRaw s2 8)
  else if c = 1 then (⟨k, 1, 0, lTextOut s2 64⟩, lText s2 64)
  else if c = 2 then (⟨k, 2, i64 (Oct.val (lOut s2.1 1)), []⟩, lRaw s2 1)
  else (⟨k, c, 0, []⟩, lFail s2 8)
/-- the pairs that come next, behind others -/
def rds : Nat → List Pr → LSt → List Pr × LSt
  | 0, h, s => (h, s)
  | n + 1, h, s =>
    if (lFail (rd1 s).2 (pcode (rd1 s).1 h)).2 ≠ 0 then ([], lFail (rd1 s).2 (pcode (rd1 s).1 h))
    else rds n (h ++ [(rd1 s).1]) (lFail (rd1 s).2 (pcode (rd1 s).1 h))
/-- the head that comes next -/
def hread (s : LSt) : List Pr × LSt :=
  if 8 < Oct.val (lOut s.1 1) then ([], lFail (lRaw s 1) 6) else rds (Oct.val (lOut s.1 1)) [] (lRaw s 1)
/-! ### what was written is read -/
theorem bad_ok {p : Pr} (h : bad p = 0) : Wrd.nameCode p.key = 0 ∧ p.kind ≤ 2 ∧ (p.kind = 1 → p.txt.length ≤ 64 ∧ p.num = 0) ∧ (p.kind = 2 → p.num = 0 ∨ p.num = 1) ∧ (p.kind ≠ 1 → p.txt = []) := by
  unfold bad at h
  by_cases h1 : Wrd.nameCode p.key = 0
  · rw [if_neg (by omega)] at h
    by_cases h2 : 2 < p.kind
    · rw [if_pos h2] at h; omega
    · rw [if_neg h2] at h
      by_cases h3 : p.kind = 1 ∧ 64 < p.txt.length
      · rw [if_pos h3] at h; omega
      · rw [if_neg h3] at h
        by_cases h4 : p.kind = 2 ∧ p.num ≠ 0 ∧ p.num ≠ 1
        · rw [if_pos h4] at h; omega
        · rw [if_neg h4] at h
          by_cases h5 : (p.kind ≠ 1 ∧ p.txt ≠ []) ∨ (p.kind = 1 ∧ p.num ≠ 0)
          · rw [if_pos h5] at h; omega
          · refine ⟨h1, by omega, fun hk => ⟨by omega, ?_⟩, fun hk => by omega, fun hk => ?_⟩
            · exact Decidable.byContradiction fun hn => h5 (Or.inr ⟨hk, hn⟩)
            · exact Decidable.byContradiction fun hn => h5 (Or.inl ⟨hk, hn⟩)
  · rw [if_pos h1] at h; exact absurd h h1
theorem name_ok_len {k : List UInt8} (h : Wrd.nameCode k = 0) : k.length ≤ 16 ∧ k ≠ [] := by
  unfold Wrd.nameCode at h
  by_cases h0 : k.length = 0
  · rw [if_pos h0] at h; omega
  · rw [if_neg h0] at h
    by_cases h1 : 16 < k.length
    · rw [if_pos h1] at h; omega
    · exact ⟨by omega, fun e => h0 (by rw [e]; rfl)⟩
theorem pcode_ok {p : Pr} {l : List Pr} (h : pcode p l = 0) : bad p = 0 ∧ there l p.key = false := by
  unfold pcode at h
  by_cases h1 : bad p = 0
  · rw [if_neg (by omega)] at h
    refine ⟨h1, ?_⟩
    cases ht : there l p.key with
    | false => rfl
    | true => rw [ht] at h; simp at h
  · rw [if_pos h1] at h; exact absurd h h1
theorem hcode_ok {l : List Pr} (h : hcode l = 0) : l.length ≤ 8 ∧ ∀ i, i < l.length → pcode (pr l i) (l.take i) = 0 := by
  unfold hcode at h
  by_cases h8 : 8 < l.length
  · rw [if_pos h8] at h; omega
  · rw [if_neg h8] at h
    exact ⟨by omega, scan_none h⟩
end Go.Proofs.YtecjngodfciokaaGreatDoor.Hd
end
