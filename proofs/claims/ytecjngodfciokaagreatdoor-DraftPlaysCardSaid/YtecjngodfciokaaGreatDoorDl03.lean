/-
  OCTET's OTHER CALLS, walked: a text that is read, what is left, the error; a text that is too long. PLAIN: a list of bytes as a text. No program is spoken of here. OCTET's CALLS over lists of bytes: what is written, what is read. PLAIN: heads: pairs, what may be, their bytes, what is read. No program is spoken of here. PLAIN: books: exchanges and bindings; what is done to them. No program is spoken of here. PLAIN: what a frame's body is made of: numbers, yes or no, texts, heads; read behind they were written, and written behind they were read. No program is spoken of here. PLAIN: messages: what may be, their bytes, what is read. No program is spoken of here. PLAIN: deeds: what they tell, what may be, their bytes. No program is spoken of here. ROWS of one's own, whatever their elements: their cells; that nothing else is written.
-/
import Derived.Test.YtecjngodfciokaaGreatDoorDl01
import Derived.Test.YtecjngodfciokaaGreatDoorDl02
import Derived.WalkKit
import Derived.ProofKit
import Derived.OpenShut
import Derived.Below
import Derived.Laws.AppendOwn
import Derived.Deep.AppendLies
section
namespace Go.Proofs.YtecjngodfciokaaGreatDoor
open Go.ChangeShapes Go.WideShapes Go.ChangeAt Go.RowKit
/-- what an object that reads has: what is left, and the error -/
abbrev St := ByteArray × Int
def St.ok (s : St) : Prop := s.2 ≠ 0 → s.1 = ByteArray.empty
/-! ### the examples -/
end Go.Proofs.YtecjngodfciokaaGreatDoor
end
section
namespace Go.Proofs.YtecjngodfciokaaGreatDoor
/-- bytes as a text -/
def ofL (l : List UInt8) : ByteArray := ⟨l.toArray⟩
theorem ofL_toList (s : ByteArray) : ofL s.data.toList = s := by
  unfold ofL; rw [Array.toArray_toList]
theorem ofL_size (l : List UInt8) : (ofL l).size = l.length := by
  show l.toArray.size = _; rw [List.size_toArray]
theorem list_extract (s : ByteArray) (i j : Nat) : (s.extract i j).data.toList = (s.data.toList.drop i).take (j - i) := by
  rw [ByteArray.data_extract, Array.toList_extract, List.extract_eq_take_drop]
theorem extract_drop (s : ByteArray) (k : Nat) : s.extract k s.size = ofL (s.data.toList.drop k) := by
  rw [← ofL_toList (s.extract k s.size), list_extract, List.take_of_length_le]
  rw [List.length_drop]; exact Nat.le_refl _
theorem ofL_app (a b : List UInt8) : ofL a ++ ofL b = ofL (a ++ b) := by
  apply ByteArray.ext
  rw [ByteArray.data_append]
  show a.toArray ++ b.toArray = (a ++ b).toArray
  simp
theorem ofL_str (x : List UInt8) : (ofL x).toList = x := by rw [ByteArray.toList_eq]; rfl
end Go.Proofs.YtecjngodfciokaaGreatDoor
end
section
namespace Go.Proofs.YtecjngodfciokaaGreatDoor
open Go.ChangeShapes Go.WideShapes Go.ChangeAt Go.RowKit
/-! ### what a reader has, as lists -/
abbrev LSt := List UInt8 × Int
def lOut (r : List UInt8) (n : Nat) : List UInt8 := if r.length < n then [] else r.take n
def lRaw (s : LSt) (n : Nat) : LSt := if s.1.length < n then ([], if s.2 = 0 then 3 else s.2) else (s.1.drop n, s.2)
def lFail (s : LSt) (c : Int) : LSt := if c = 0 ∨ s.2 ≠ 0 then s else ([], c)
def lLen (s : LSt) : Nat := Oct.val (lOut s.1 2)
def lMid (s : LSt) (m : Int) : LSt := if m < (lLen s : Int) then lFail (lRaw s 2) 5 else lRaw s 2
def lText (s : LSt) (m : Int) : LSt := lRaw (lMid s m) (lLen s)
def lTextOut (s : LSt) (m : Int) : List UInt8 := lOut (lMid s m).1 (lLen s)
theorem lOut_le (r : List UInt8) (n : Nat) : (lOut r n).length ≤ n := by
  unfold lOut
  split
  · simp
  · rw [List.length_take]; omega
theorem val_out_lt (r : List UInt8) (n : Nat) : Oct.val (lOut r n) < 256 ^ n :=
  Nat.lt_of_lt_of_le (Oct.val_lt _) (Nat.pow_le_pow_right (n := 256) (by decide) (lOut_le r n))
/-! ### as bytes -/
/-! ### what is written -/
theorem num_l (x : List UInt8) (n k : Nat) (b : Int) (w : World) (hn : n < 18446744073709551616) (hk : k ≤ 8) (hb : b = (k : Int)) (hx : x.length ≤ 1000000) :
    Calls Tryz.prog 70 #[.agg #[.string (ofL x), .int .i64 0], .int .u64 (n : Int), .int .i64 b] w fun e w' => e = .returned (.agg #[.string (ofL (x ++ Oct.be k n)), .int .i64 0]) ∧ Below w.heap.size w w' := by
  subst hb
  have h := num_any (ofL x) 0 n (k : Int) w hn (by rw [ofL_size]; exact hx)
  rw [Oct.width_num k hk] at h
  rw [show ofL x ++ ByteArray.mk (Oct.be k n).toArray = ofL (x ++ Oct.be k n) from ofL_app _ _] at h
  exact h
theorem text_l (x s : List UInt8) (w : World) (hx : x.length ≤ 900000) (hs : s.length ≤ 65535) :
    Calls Tryz.prog 71 #[.agg #[.string (ofL x), .int .i64 0], .string (ofL s)] w fun e w' => e = .returned (.agg #[.string (ofL (x ++ (Oct.be 2 s.length ++ s))), .int .i64 0]) ∧ Below w.heap.size w w' := by
  have h := text_any (ofL x) (ofL s) 0 w (by rw [ofL_size]; exact hx) (by rw [ofL_size]; exact hs)
  have e : ofL x ++ textB (ofL s) = ofL (x ++ (Oct.be 2 s.length ++ s)) := by
    unfold textB
    rw [ofL_size, show ByteArray.mk (Oct.be 2 s.length).toArray = ofL (Oct.be 2 s.length) from rfl, ofL_app, ofL_app]
  rw [e] at h
  exact h
theorem raw_l (x s : List UInt8) (w : World) (hx : x.length ≤ 1000000) (hs : s.length ≤ 1000000) :
    Calls Tryz.prog 85 #[.agg #[.string (ofL x), .int .i64 0], .string (ofL s)] w fun e w' => e = .returned (.agg #[.string (ofL (x ++ s)), .int .i64 0]) ∧ Below w.heap.size w w' := by
  have h := raw_any (ofL x) (ofL s) 0 w (by rw [ofL_size]; exact hx) (by rw [ofL_size]; exact hs)
  rw [ofL_app] at h
  exact h
end Go.Proofs.YtecjngodfciokaaGreatDoor
end
section
namespace Go.Proofs.YtecjngodfciokaaGreatDoor.Hd
structure Pr where
  key : List UInt8
  kind : Nat
  num : Int
  txt : List UInt8
deriving DecidableEq
def Pr.zero : Pr := ⟨[], 0, 0, []⟩
def pr (l : List Pr) (i : Nat) : Pr := l.getD i Pr.zero
theorem pr_at {l : List Pr} {i : Nat} (h : i < l.length) : pr l i = l[i] := by unfold pr; rw [List.getD_eq_getElem?_getD, List.getElem?_eq_getElem h]; rfl
/-- numbers that their types hold -/
structure Fits (p : Pr) : Prop where
  kind : p.kind < 256
  lo : -9223372036854775808 ≤ p.num
  hi : p.num < 9223372036854775808
theorem Fits.zero : Fits Pr.zero := ⟨by decide, by decide, by decide⟩

/-- the first of n codes that isn't 0 -/
def scan (f : Nat → Nat) : Nat → Nat
  | 0 => 0
  | n + 1 => if scan f n ≠ 0 then scan f n else f n
theorem scan_zero {f : Nat → Nat} {n : Nat} (h : ∀ i, i < n → f i = 0) : scan f n = 0 := by
  induction n with
  | zero => rfl
  | succ n ih =>
    have h1 := ih fun i hi => h i (by omega)
    rw [scan, if_neg (by rw [h1]; simp), h n (by omega)]
theorem scan_at {f : Nat → Nat} {n k : Nat} (hk : k < n) (h : ∀ i, i < k → f i = 0) (hf : f k ≠ 0) : scan f n = f k := by
  induction n with
  | zero => omega
  | succ n ih =>
    by_cases e : k = n
    · subst e
      rw [scan, if_neg (by rw [scan_zero h]; simp)]
    · have := ih (by omega)
      rw [scan, if_pos (by rw [this]; exact hf), this]
theorem scan_none {f : Nat → Nat} {n : Nat} (h : scan f n = 0) : ∀ i, i < n → f i = 0 := by
  induction n with
  | zero => intro i hi; omega
  | succ n ih =>
    rw [scan] at h
    by_cases h1 : scan f n = 0
    · rw [if_neg (by rw [h1]; simp)] at h
      intro i hi
      by_cases e : i = n
      · rw [e]; exact h
      · exact ih h1 i (by omega)
    · rw [if_pos h1] at h; exact absurd h h1

/-- is a pair of that key there? -/
def there (l : List Pr) (k : List UInt8) : Bool := l.any fun q => q.key == k
/-- what is wrong with a pair by itself -/
def bad (p : Pr) : Nat :=
  if Wrd.nameCode p.key ≠ 0 then Wrd.nameCode p.key else
  if 2 < p.kind then 8 else
  if p.kind = 1 ∧ 64 < p.txt.length then 5 else
  if p.kind = 2 ∧ p.num ≠ 0 ∧ p.num ≠ 1 then 7 else
  if (p.kind ≠ 1 ∧ p.txt ≠ []) ∨ (p.kind = 1 ∧ p.num ≠ 0) then 4 else 0
/-- what is wrong with a pair behind others -/
def pcode (p : Pr) (ahead : List Pr) : Nat := if bad p ≠ 0 then bad p else if there ahead p.key then 9 else 0
/-- what is wrong with a head -/
def hcode (l : List Pr) : Nat := if 8 < l.length then 6 else scan (fun i => pcode (pr l i) (l.take i)) l.length

/-- a number modulo 2^64 -/
def n64 (n : Int) : Nat := (n % 18446744073709551616).toNat
/-- and back -/
def i64 (n : Nat) : Int := if n < 9223372036854775808 then n else (n : Int) - 18446744073709551616
theorem n64_lt (n : Int) : n64 n < 18446744073709551616 := by unfold n64; omega
theorem n64_cast (n : Int) : ((n64 n : Nat) : Int) = n % 18446744073709551616 := by unfold n64; omega
/-- what stands behind a pair's Kind -/
def pbody (p : Pr) : List UInt8 := if p.kind = 0 then Oct.be 8 (n64 p.num) else if p.kind = 1 then Oct.text p.txt else Oct.be 1 (n64 p.num)
/-- a pair's bytes -/
def penc (p : Pr) : List UInt8 := Oct.text p.key ++ Oct.be 1 p.kind ++ pbody p
/-- a head's bytes -/
def henc (l : List Pr) : List UInt8 := Oct.be 1 l.length ++ l.flatMap penc

/-- the pair that comes next, as it is there -/
def rd1 (s : LSt) : Pr × LSt :=
  let k := lTextOut s 16
  let s1 := lText s 16
  let c := Oct.val (lOut s1.1 1)
  let s2 := lRaw s1 1
  if c = 0 then (⟨k, 0, i64 (Oct.val (lOut s2.1 8)), []⟩, lRaw s2 8)
  else if c = 1 then (⟨k, 1, 0, lTextOut s2 64⟩, lText s2 64)
  else if c = 2 then (⟨k, 2, i64 (Oct.val (lOut s2.1 1)), []⟩, lRaw s2 1)
  else (⟨k, c, 0, []⟩, lFail s2 8)
/-- the pairs that come next, behind others -/
def rds : Nat → List Pr → LSt → List Pr × LSt
  | 0, h, s => (h, s)
  | n + 1, h, s =>
    if (lFail (rd1 s).2 (pcode (rd1 s).1 h)).2 ≠ 0 then ([], lFail (rd1 s).2 (pcode (rd1 s).1 h))
    else rds n (h ++ [(rd1 s).1]) (lFail (rd1 s).2 (pcode (rd1 s).1 h))
/-- the head that comes next -/
def hread (s : LSt) : List Pr × LSt :=
  if 8 < Oct.val (lOut s.1 1) then ([], lFail (lRaw s 1) 6) else rds (Oct.val (lOut s.1 1)) [] (lRaw s 1)
/-! ### what was written is read -/
theorem bad_ok {p : Pr} (h : bad p = 0) : Wrd.nameCode p.key = 0 ∧ p.kind ≤ 2 ∧ (p.kind = 1 → p.txt.length ≤ 64 ∧ p.num = 0) ∧ (p.kind = 2 → p.num = 0 ∨ p.num = 1) ∧ (p.kind ≠ 1 → p.txt = []) := by
  unfold bad at h
  by_cases h1 : Wrd.nameCode p.key = 0
  · rw [if_neg (by omega)] at h
    by_cases h2 : 2 < p.kind
    · rw [if_pos h2] at h; omega
    · rw [if_neg h2] at h
      by_cases h3 : p.kind = 1 ∧ 64 < p.txt.length
      · rw [if_pos h3] at h; omega
      · rw [if_neg h3] at h
        by_cases h4 : p.kind = 2 ∧ p.num ≠ 0 ∧ p.num ≠ 1
        · rw [if_pos h4] at h; omega
        · rw [if_neg h4] at h
          by_cases h5 : (p.kind ≠ 1 ∧ p.txt ≠ []) ∨ (p.kind = 1 ∧ p.num ≠ 0)
          · rw [if_pos h5] at h; omega
          · refine ⟨h1, by omega, fun hk => ⟨by omega, ?_⟩, fun hk => by omega, fun hk => ?_⟩
            · exact Decidable.byContradiction fun hn => h5 (Or.inr ⟨hk, hn⟩)
            · exact Decidable.byContradiction fun hn => h5 (Or.inl ⟨hk, hn⟩)
  · rw [if_pos h1] at h; exact absurd h h1
theorem name_ok_len {k : List UInt8} (h : Wrd.nameCode k = 0) : k.length ≤ 16 ∧ k ≠ [] := by
  unfold Wrd.nameCode at h
  by_cases h0 : k.length = 0
  · rw [if_pos h0] at h; omega
  · rw [if_neg h0] at h
    by_cases h1 : 16 < k.length
    · rw [if_pos h1] at h; omega
    · exact ⟨by omega, fun e => h0 (by rw [e]; rfl)⟩
theorem pcode_ok {p : Pr} {l : List Pr} (h : pcode p l = 0) : bad p = 0 ∧ there l p.key = false := by
  unfold pcode at h
  by_cases h1 : bad p = 0
  · rw [if_neg (by omega)] at h
    refine ⟨h1, ?_⟩
    cases ht : there l p.key with
    | false => rfl
    | true => rw [ht] at h; simp at h
  · rw [if_pos h1] at h; exact absurd h h1
theorem hcode_ok {l : List Pr} (h : hcode l = 0) : l.length ≤ 8 ∧ ∀ i, i < l.length → pcode (pr l i) (l.take i) = 0 := by
  unfold hcode at h
  by_cases h8 : 8 < l.length
  · rw [if_pos h8] at h; omega
  · rw [if_neg h8] at h
    exact ⟨by omega, scan_none h⟩
end Go.Proofs.YtecjngodfciokaaGreatDoor.Hd
end
section
namespace Go.Proofs.YtecjngodfciokaaGreatDoor
structure Sh where
  name : List UInt8
  sort : Nat
  to : List UInt8
deriving DecidableEq
structure Bd where
  shop : List UInt8
  to : List UInt8
  up : Bool
  key : List UInt8
  want : List Hd.Pr
  all : Bool
deriving DecidableEq
structure Bk where
  shops : List Sh
  binds : List Bd
deriving DecidableEq
namespace Bk
def Sh0 : Sh := ⟨[], 0, []⟩
def Bd0 : Bd := ⟨[], [], false, [], [], false⟩
def empty : Bk := ⟨[], []⟩
/-- what is wrong with a key, by the sort -/
def kcode (sort : Nat) (x : Bd) : Nat := if sort = 0 then Wrd.keyCode [] x.key else Wrd.keyCode [Wrd.star, Wrd.hash] x.key
/-- what is wrong with a binding's rule, by the sort -/
def rcode (sort : Nat) (x : Bd) : Nat := if 3 < sort then 8 else if kcode sort x ≠ 0 then kcode sort x else Hd.hcode x.want
/-- what is wrong with an exchange by itself -/
def scode (x : Sh) : Nat :=
  if Wrd.nameCode x.name ≠ 0 then Wrd.nameCode x.name else
  if 4 < x.sort then 8 else
  if x.sort = 4 then Wrd.nameCode x.to else
  if x.to ≠ [] then 4 else 0
def shop (b : Bk) (name : List UInt8) : Option Sh := b.shops.find? fun x => x.name == name
/-- an exchange more -/
def make (b : Bk) (x : Sh) : Bk × Nat :=
  if scode x ≠ 0 then (b, scode x) else
  match b.shop x.name with
  | some y => if y = x then (b, 0) else (b, 9)
  | none => if 8 ≤ b.shops.length then (b, 12) else (⟨b.shops ++ [x], b.binds⟩, 0)
def drop (b : Bk) (name : List UInt8) : Bk × Nat :=
  match b.shop name with
  | some _ => (⟨b.shops.filter fun x => !(x.name == name), b.binds.filter fun x => !(x.shop == name)⟩, 0)
  | none => (b, 10)
/-- what is wrong with a binding in a book -/
def bcode (b : Bk) (x : Bd) : Nat :=
  match b.shop x.shop with
  | none => 10
  | some s => if s.sort = 4 then 8 else if Wrd.nameCode x.to ≠ 0 then Wrd.nameCode x.to else rcode s.sort x
def bind (b : Bk) (x : Bd) : Bk × Nat :=
  if bcode b x ≠ 0 then (b, bcode b x) else
  if x ∈ b.binds then (b, 0) else
  if 32 ≤ b.binds.length then (b, 12) else (⟨b.shops, b.binds ++ [x]⟩, 0)
def unbind (b : Bk) (x : Bd) : Bk × Nat :=
  if x ∈ b.binds then (⟨b.shops, b.binds.filter fun y => !(decide (x = y))⟩, 0) else (b, 10)
def forget (b : Bk) (q : List UInt8) : Bk := ⟨b.shops, b.binds.filter fun y => y.up || !(y.to == q)⟩
/-- names, each once -/
def put (l : List (List UInt8)) (s : List UInt8) : List (List UInt8) := if s ∈ l then l else l ++ [s]

/-- what holds of every book that was made -/
structure Ok (b : Bk) : Prop where
  shops : ∀ x ∈ b.shops, scode x = 0
  len : b.shops.length ≤ 8
  once : b.shops.Pairwise fun x y => x.name ≠ y.name
  binds : ∀ x ∈ b.binds, bcode b x = 0
  blen : b.binds.length ≤ 32
theorem Ok.empty : Ok empty := ⟨by simp [Bk.empty], by simp [Bk.empty], by simp [Bk.empty], by simp [Bk.empty], by simp [Bk.empty]⟩
theorem shop_mem {b : Bk} {n : List UInt8} {s : Sh} (h : b.shop n = some s) : s ∈ b.shops ∧ s.name = n := by
  unfold shop at h
  exact ⟨List.mem_of_find?_eq_some h, by simpa using List.find?_some h⟩
/-- the program looks first whether it is there: it comes to the same -/
theorem make_first {b : Bk} (hb : Ok b) (x : Sh) : make b x = if b.shop x.name = some x then (b, 0) else if scode x ≠ 0 then (b, scode x) else if (b.shop x.name).isSome then (b, 9) else if 8 ≤ b.shops.length then (b, 12) else (⟨b.shops ++ [x], b.binds⟩, 0) := by
  unfold make
  by_cases h : b.shop x.name = some x
  · rw [if_pos h, if_neg (by have := hb.shops x (shop_mem h).1; omega), h]
    simp
  · rw [if_neg h]
    by_cases hs : scode x = 0
    · have hn : ¬ scode x ≠ 0 := fun g => g hs
      rw [if_neg hn, if_neg hn]
      cases hf : b.shop x.name with
      | none => simp
      | some y =>
        have : ¬ y = x := fun e => h (by rw [hf, e])
        simp [this]
    · rw [if_pos hs, if_pos hs]
theorem bind_first {b : Bk} (hb : Ok b) (x : Bd) : bind b x = if x ∈ b.binds then (b, 0) else if bcode b x ≠ 0 then (b, bcode b x) else if 32 ≤ b.binds.length then (b, 12) else (⟨b.shops, b.binds ++ [x]⟩, 0) := by
  unfold bind
  by_cases h : x ∈ b.binds
  · rw [if_pos h, if_neg (by have := hb.binds x h; omega), if_pos h]
  · rw [if_neg h, if_neg h]
theorem shop_app {b : Bk} {x : Sh} {n : List UInt8} {s : Sh} (h : b.shop n = some s) : (⟨b.shops ++ [x], b.binds⟩ : Bk).shop n = some s := by
  unfold shop at h ⊢
  rw [List.find?_append, h]
  rfl
theorem bcode_shop {b c : Bk} {x : Bd} (h : c.shop x.shop = b.shop x.shop) : bcode c x = bcode b x := by unfold bcode; rw [h]
theorem Ok.make {b : Bk} (hb : Ok b) (x : Sh) : Ok (b.make x).1 := by
  unfold Bk.make
  by_cases hs : scode x = 0
  · rw [if_neg (by omega)]
    cases hf : b.shop x.name with
    | some y => dsimp only; split <;> exact hb
    | none =>
      dsimp only
      by_cases h8 : 8 ≤ b.shops.length
      · rw [if_pos h8]; exact hb
      · rw [if_neg h8]
        refine ⟨fun y hy => ?_, ?_, ?_, fun y hy => ?_, hb.blen⟩
        · rcases List.mem_append.1 hy with hy | hy
          · exact hb.shops y hy
          · rw [List.mem_singleton] at hy; rw [hy]; exact hs
        · show (b.shops ++ [x]).length ≤ 8
          rw [List.length_append, List.length_singleton]; omega
        · show (b.shops ++ [x]).Pairwise _
          rw [List.pairwise_append]
          refine ⟨hb.once, by simp, fun y hy z hz => ?_⟩
          rw [List.mem_singleton] at hz
          subst hz
          unfold shop at hf
          rw [List.find?_eq_none] at hf
          simpa using hf y hy
        · have h0 := hb.binds y hy
          cases hy2 : b.shop y.shop with
          | none => unfold bcode at h0; rw [hy2] at h0; dsimp only at h0; omega
          | some s => rw [bcode_shop ((shop_app hy2).trans hy2.symm)]; exact h0
  · rw [if_pos hs]; exact hb
theorem shop_drop {b : Bk} {n m : List UInt8} (h : m ≠ n) (l : List Bd) : (⟨b.shops.filter fun x => !(x.name == n), l⟩ : Bk).shop m = b.shop m := by
  unfold shop
  rw [List.find?_filter]
  congr 1
  funext x
  by_cases e : x.name = m
  · simp [e, h]
  · simp [e]
theorem Ok.drop {b : Bk} (hb : Ok b) (n : List UInt8) : Ok (b.drop n).1 := by
  unfold Bk.drop
  cases hf : b.shop n with
  | none => exact hb
  | some s =>
    refine ⟨fun y hy => hb.shops y (List.mem_filter.1 hy).1, Nat.le_trans (List.length_filter_le _ _) hb.len, hb.once.filter _, fun y hy => ?_, Nat.le_trans (List.length_filter_le _ _) hb.blen⟩
    have hm := List.mem_filter.1 hy
    have hne : y.shop ≠ n := by simpa using hm.2
    exact (bcode_shop (shop_drop hne _)).trans (hb.binds y hm.1)
theorem Ok.bind {b : Bk} (hb : Ok b) (x : Bd) : Ok (b.bind x).1 := by
  unfold Bk.bind
  by_cases hs : bcode b x = 0
  · rw [if_neg (by omega)]
    by_cases hx : x ∈ b.binds
    · rw [if_pos hx]; exact hb
    · rw [if_neg hx]
      by_cases h32 : 32 ≤ b.binds.length
      · rw [if_pos h32]; exact hb
      · rw [if_neg h32]
        refine ⟨hb.shops, hb.len, hb.once, fun y hy => ?_, ?_⟩
        · rcases List.mem_append.1 hy with hy | hy
          · exact hb.binds y hy
          · rw [List.mem_singleton] at hy; rw [hy]; exact hs
        · show (b.binds ++ [x]).length ≤ 32
          rw [List.length_append, List.length_singleton]; omega
  · rw [if_pos hs]; exact hb
theorem Ok.some_binds {b : Bk} (hb : Ok b) (p : Bd → Bool) : Ok ⟨b.shops, b.binds.filter p⟩ :=
  ⟨hb.shops, hb.len, hb.once, fun y hy => (bcode_shop rfl).trans (hb.binds y (List.mem_filter.1 hy).1), Nat.le_trans (List.length_filter_le _ _) hb.blen⟩
theorem Ok.unbind {b : Bk} (hb : Ok b) (x : Bd) : Ok (b.unbind x).1 := by
  unfold Bk.unbind
  split
  · exact hb.some_binds _
  · exact hb
theorem Ok.forget {b : Bk} (hb : Ok b) (q : List UInt8) : Ok (b.forget q) := hb.some_binds _
end Bk
end Go.Proofs.YtecjngodfciokaaGreatDoor
end
section
namespace Go.Proofs.YtecjngodfciokaaGreatDoor.Pt
/-- a yes or no that comes next -/
def yesOut (s : LSt) : Bool := Oct.val (lOut s.1 1) == 1
def yesIn (s : LSt) : LSt := if 1 < Oct.val (lOut s.1 1) then lFail (lRaw s 1) 4 else lRaw s 1
def yesEnc (b : Bool) : List UInt8 := if b then [1] else [0]
/-! ### written, then read -/
/-! ### read, then written -/
theorem chain {s s1 s2 s3 : LSt} {a b c : List UInt8} (h1 : s = (a ++ s1.1, 0)) (h2 : s1 = (b ++ s2.1, 0)) (h3 : s2 = (c ++ s3.1, 0)) : s = (a ++ b ++ c ++ s3.1, 0) := by
  have e1 := congrArg Prod.fst h2
  have e2 := congrArg Prod.fst h3
  simp only at e1 e2
  rw [h1, e1, e2]
  simp [List.append_assoc]
end Go.Proofs.YtecjngodfciokaaGreatDoor.Pt
end
section
namespace Go.Proofs.YtecjngodfciokaaGreatDoor
structure Ml where
  id : Nat
  shop : List UInt8
  key : List UInt8
  head : List Hd.Pr
  body : List UInt8
  due : Nat
  hops : Nat
deriving DecidableEq
namespace Ml
def zero : Ml := ⟨0, [], [], [], [], 0, 0⟩
/-- what is wrong with a message -/
def code (x : Ml) : Nat :=
  if Wrd.nameCode x.shop ≠ 0 then Wrd.nameCode x.shop else
  if Wrd.keyCode [] x.key ≠ 0 then Wrd.keyCode [] x.key else
  if Hd.hcode x.head ≠ 0 then Hd.hcode x.head else
  if 256 < x.body.length then 5 else
  if 4 < x.hops then 7 else 0
/-- numbers that their types hold -/
structure Fits (x : Ml) : Prop where
  id : x.id < 18446744073709551616
  due : x.due < 18446744073709551616
  hops : x.hops < 256
  head : ∀ p ∈ x.head, Hd.Fits p
theorem code_ok {x : Ml} (h : code x = 0) : Wrd.nameCode x.shop = 0 ∧ Wrd.keyCode [] x.key = 0 ∧ Hd.hcode x.head = 0 ∧ x.body.length ≤ 256 ∧ x.hops ≤ 4 := by
  unfold code at h
  by_cases h1 : Wrd.nameCode x.shop = 0
  · rw [if_neg (by omega)] at h
    by_cases h2 : Wrd.keyCode [] x.key = 0
    · rw [if_neg (by omega)] at h
      by_cases h3 : Hd.hcode x.head = 0
      · rw [if_neg (by omega)] at h
        by_cases h4 : 256 < x.body.length
        · rw [if_pos h4] at h; omega
        · rw [if_neg h4] at h
          by_cases h5 : 4 < x.hops
          · rw [if_pos h5] at h; omega
          · exact ⟨h1, h2, h3, by omega, by omega⟩
      · rw [if_pos h3] at h; exact absurd h h3
    · rw [if_pos h2] at h; exact absurd h h2
  · rw [if_pos h1] at h; exact absurd h h1
/-- its bytes, as far as its head -/
def enc (x : Ml) : List UInt8 := Oct.be 8 x.id ++ (Oct.text x.shop ++ (Oct.text x.key ++ (Hd.henc x.head ++ (Oct.text x.body ++ (Oct.be 8 x.due ++ Oct.be 1 x.hops)))))
/-- what is read, field by field -/
def s1 (s : LSt) : LSt := lRaw s 8
def s2 (s : LSt) : LSt := lText (s1 s) 16
def s3 (s : LSt) : LSt := lText (s2 s) 64
def s4 (s : LSt) : LSt := (Hd.hread (s3 s)).2
def s5 (s : LSt) : LSt := lText (s4 s) 256
def s6 (s : LSt) : LSt := lRaw (s5 s) 8
def s7 (s : LSt) : LSt := lRaw (s6 s) 1
theorem key_len {bs : List (List UInt8)} {l : List UInt8} (h : Wrd.keyCode bs l = 0) : l.length ≤ 64 := by
  unfold Wrd.keyCode at h
  by_cases h1 : 64 < l.length
  · rw [if_pos h1] at h; omega
  · omega
end Ml
end Go.Proofs.YtecjngodfciokaaGreatDoor
end
section
namespace Go.Proofs.YtecjngodfciokaaGreatDoor
structure Qu where
  name : List UInt8
  most : Nat
  life : Nat
  dead : List UInt8
deriving DecidableEq
structure De where
  kd : Nat
  tick : Nat
  shop : Sh
  q : Qu
  bind : Bd
  name : List UInt8
  id : Nat
  how : Nat
  frm : Nat
  cd : Nat
  num : Nat
  mail : Ml
  text : List UInt8
deriving DecidableEq
namespace De
def Qu0 : Qu := ⟨[], 0, 0, []⟩
def zero : De := ⟨0, 0, Bk.Sh0, Qu0, Bk.Bd0, [], 0, 0, 0, 0, 0, Ml.zero, []⟩
def of (k t : Nat) : De := ⟨k, t, Bk.Sh0, Qu0, Bk.Bd0, [], 0, 0, 0, 0, 0, Ml.zero, []⟩
def names (k : Nat) : Bool := k == 1 || k == 3 || k == 7 || k == 8
/-- what its kind tells -/
def told (x : De) : De :=
  if x.kd = 0 then { of x.kd x.tick with shop := x.shop } else
  if x.kd = 2 then { of x.kd x.tick with q := x.q } else
  if x.kd = 4 ∨ x.kd = 5 then { of x.kd x.tick with bind := x.bind } else
  if x.kd = 1 ∨ x.kd = 3 ∨ x.kd = 7 then { of x.kd x.tick with name := x.name } else
  if x.kd = 6 then { of x.kd x.tick with mail := x.mail } else
  if x.kd = 8 then { of x.kd x.tick with name := x.name, id := x.id, how := x.how } else
  if x.kd = 10 then { of x.kd x.tick with frm := x.frm, num := x.num, mail := x.mail } else
  if x.kd = 12 then { of x.kd x.tick with cd := x.cd, text := x.text } else of x.kd x.tick
/-- a name, or nothing -/
def maybe (s : List UInt8) : Nat := if s = [] then 0 else Wrd.nameCode s
/-- what is wrong with what is told of an exchange, a queue, a binding -/
def shc (x : Sh) : Nat := if Wrd.nameCode x.name ≠ 0 then Wrd.nameCode x.name else if 4 < x.sort then 8 else maybe x.to
def quc (x : Qu) : Nat := if Wrd.nameCode x.name ≠ 0 then Wrd.nameCode x.name else maybe x.dead
def bdc (x : Bd) : Nat := if Wrd.nameCode x.shop ≠ 0 then Wrd.nameCode x.shop else if Wrd.nameCode x.to ≠ 0 then Wrd.nameCode x.to else if 64 < x.key.length then 5 else Hd.hcode x.want
def stc (x : De) : Nat := if Wrd.nameCode x.name ≠ 0 then Wrd.nameCode x.name else if 2 < x.how then 7 else 0
def body (x : De) : Nat :=
  if x.kd = 0 then shc x.shop else
  if x.kd = 2 then quc x.q else
  if x.kd = 4 ∨ x.kd = 5 then bdc x.bind else
  if x.kd = 1 ∨ x.kd = 3 ∨ x.kd = 7 then Wrd.nameCode x.name else
  if x.kd = 6 ∨ x.kd = 10 then x.mail.code else
  if x.kd = 8 then stc x else
  if x.kd = 12 then (if 64 < x.text.length then 5 else 0) else 0
/-- what is wrong with it first -/
def code (x : De) : Nat := if 12 < x.kd then 8 else if x ≠ x.told then 4 else body x
/-- numbers that their types hold -/
structure Fits (x : De) : Prop where
  kd : x.kd < 256
  tick : x.tick < 18446744073709551616
  sort : x.shop.sort < 256
  most : x.q.most < 18446744073709551616
  life : x.q.life < 18446744073709551616
  want : ∀ p ∈ x.bind.want, Hd.Fits p
  id : x.id < 18446744073709551616
  how : x.how < 256
  frm : x.frm < 256
  cd : x.cd < 256
  num : x.num < 18446744073709551616
  mail : Ml.Fits x.mail
end De
end Go.Proofs.YtecjngodfciokaaGreatDoor
end
section
namespace Go.Proofs.YtecjngodfciokaaGreatDoor.Rw
open Go.ChangeShapes Go.WideShapes Go.ChangeAt Go.RowKit
theorem gb {W W' : World} (h : Below W.heap.size W W') (row : Option Nat) : W.grownBy W' row := ⟨h.os, h.tape, h.output, h.size, fun k hk _ => h.block k hk⟩
theorem flat_get {α : Type} (f : α → List Value) (c : Nat) (hf : ∀ x, (f x).length = c) (hc : 0 < c) : ∀ (l : List α) (i t : Nat) (h : i < l.length), t < c → (l.flatMap f)[i * c + t]? = (f l[i])[t]?
  | [], i, t, h, _ => by simp at h
  | x :: l, 0, t, h, ht => by
    rw [List.flatMap_cons, List.getElem?_append_left (by rw [hf]; omega)]
    simp
  | x :: l, i + 1, t, h, ht => by
    have ih := flat_get f c hf hc l i t (by simpa using h) ht
    rw [List.flatMap_cons, List.getElem?_append_right (by rw [hf, Nat.succ_mul]; omega), hf]
    rw [show (i + 1) * c + t - c = i * c + t by rw [Nat.succ_mul]; omega, ih]
    rfl
theorem flat_len {α : Type} (f : α → List Value) (c : Nat) (hf : ∀ x, (f x).length = c) (l : List α) : (l.flatMap f).length = l.length * c := by
  induction l with
  | nil => simp
  | cons x l ih => rw [List.flatMap_cons, List.length_append, hf, ih, List.length_cons, Nat.succ_mul]; omega
theorem own_cells {w : World} {B e size : Nat} {v : Value} {n : Nat} {xs : List Value} (h : w.ownsRow B e size v n xs) :
    ∃ A c, v = .slice A n c ∧ n ≤ c ∧ (∀ a, A = some a → v.ownBlock = some a.block) ∧ (0 < n → ∃ g, A = some ⟨g, 0, none⟩ ∧ g < w.heap.size ∧ ∀ j, j < n * size → w.cell? ⟨g, j, none⟩ = xs[j]?) := by
  obtain ⟨hl, h1 | ⟨g, cap, cur, rfl, hB, hb, h2⟩⟩ := h
  · obtain ⟨rfl, rfl⟩ := h1
    exact ⟨none, 0, rfl, Nat.le_refl _, (fun a h => by cases h), fun h => absurd h (by omega)⟩
  · refine ⟨_, cap, rfl, h2.1, (fun a h => by cases h; rfl), fun _ => ⟨g, rfl, (Array.getElem?_eq_some_iff.1 hb).1, fun j hj => ?_⟩⟩
    exact World.ownsRow.cellAt ⟨hl, Or.inr ⟨g, cap, cur, rfl, hB, hb, h2⟩⟩ j hj
theorem own_ne {W : World} {B e size n k : Nat} {v : Value} {xs : List Value} (h : W.ownsRow B e size v n xs) (hk : k < B) : v.ownBlock = none ∨ v.ownBlock ≠ some k := by
  right
  intro e
  have := (h.lt k e).1
  omega
theorem own_row {W : World} {B e size n k : Nat} {v : Value} {xs : List Value} (h : W.ownsRow B e size v n xs) (hk : k < B) : v.ownBlock ≠ some k := by
  intro e
  have := (h.lt k e).1
  omega
theorem own_on {w w' : World} {B e size : Nat} {v : Value} {n : Nat} {xs : List Value} (h : w.ownsRow B e size v n xs) (hb : Below w.heap.size w w') : w'.ownsRow B e size v n xs :=
  h.kept (gb hb (some w.heap.size)) (.inr fun e => by have := (h.lt _ e).2; omega)
end Go.Proofs.YtecjngodfciokaaGreatDoor.Rw
end
