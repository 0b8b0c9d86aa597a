/-
  OCTET's OTHER CALLS, walked: a text that is read, what is left, the error; a text that is too long. OCTET's CALLS over lists of bytes: what is written, what is read.
-/
import Derived.Test.YtfbajmiiecmelaaDoorRt02
import Derived.Test.YtfbajmiiecmelaaDoorRt03

section
namespace Go.Proofs.YtfbajmiiecmelaaDoor
open Go.ChangeShapes Go.WideShapes Go.ChangeAt Go.RowKit
/-- what an object that reads has: what is left, and the error -/
abbrev St := ByteArray × Int
def St.ok (s : St) : Prop := s.2 ≠ 0 → s.1 = ByteArray.empty
/-! ### the examples -/
end Go.Proofs.YtfbajmiiecmelaaDoor
end
section
namespace Go.Proofs.YtfbajmiiecmelaaDoor
open Go.ChangeShapes Go.WideShapes Go.ChangeAt Go.RowKit
/-! ### what a reader has, as lists -/
abbrev LSt := List UInt8 × Int
def lOut (r : List UInt8) (n : Nat) : List UInt8 := if r.length < n then [] else r.take n
def lRaw (s : LSt) (n : Nat) : LSt := if s.1.length < n then ([], if s.2 = 0 then 3 else s.2) else (s.1.drop n, s.2)
def lFail (s : LSt) (c : Int) : LSt := if c = 0 ∨ s.2 ≠ 0 then s else ([], c)
def lLen (s : LSt) : Nat := Oct.val (lOut s.1 2)
def lMid (s : LSt) (m : Int) : LSt := if m < (lLen s : Int) then lFail (lRaw s 2) 5 else lRaw s 2
def lText (s : LSt) (m : Int) : LSt := lRaw (lMid s m) (lLen s)
def lTextOut (s : LSt) (m : Int) : List UInt8 := lOut (lMid s m).1 (lLen s)
theorem lOut_le (r : List UInt8) (n : Nat) : (lOut r n).length ≤ n := by
  unfold lOut
  split
  · simp
  · rw [List.length_take]; omega
theorem val_out_lt (r : List UInt8) (n : Nat) : Oct.val (lOut r n) < 256 ^ n :=
  Nat.lt_of_lt_of_le (Oct.val_lt _) (Nat.pow_le_pow_right (n := 256) (by decide) (lOut_le r n))
/-! ### as bytes -/
/-! ### what is written -/
theorem num_l (x : List UInt8) (n k : Nat) (b : Int) (w : World) (hn : n < 18446744073709551616) (hk : k ≤ 8) (hb : b = (k : Int)) (hx : x.length ≤ 1000000) :
    Calls Tryd.prog 32 #[.agg #[.string (ofL x), .int .i64 0], .int .u64 (n : Int), .int .i64 b] w fun e w' => e = .returned (.agg #[.string (ofL (x ++ Oct.be k n)), .int .i64 0]) ∧ Below w.heap.size w w' := by
  subst hb
  have h := num_any (ofL x) 0 n (k : Int) w hn (by rw [ofL_size]; exact hx)
  rw [Oct.width_num k hk] at h
  rw [show ofL x ++ ByteArray.mk (Oct.be k n).toArray = ofL (x ++ Oct.be k n) from ofL_app _ _] at h
  exact h
theorem text_l (x s : List UInt8) (w : World) (hx : x.length ≤ 900000) (hs : s.length ≤ 65535) :
    Calls Tryd.prog 33 #[.agg #[.string (ofL x), .int .i64 0], .string (ofL s)] w fun e w' => e = .returned (.agg #[.string (ofL (x ++ (Oct.be 2 s.length ++ s))), .int .i64 0]) ∧ Below w.heap.size w w' := by
  have h := text_any (ofL x) (ofL s) 0 w (by rw [ofL_size]; exact hx) (by rw [ofL_size]; exact hs)
  have e : ofL x ++ textB (ofL s) = ofL (x ++ (Oct.be 2 s.length ++ s)) := by
    unfold textB
    rw [ofL_size, show ByteArray.mk (Oct.be 2 s.length).toArray = ofL (Oct.be 2 s.length) from rfl, ofL_app, ofL_app]
  rw [e] at h
  exact h
theorem raw_l (x s : List UInt8) (w : World) (hx : x.length ≤ 1000000) (hs : s.length ≤ 1000000) :
    Calls Tryd.prog 34 #[.agg #[.string (ofL x), .int .i64 0], .string (ofL s)] w fun e w' => e = .returned (.agg #[.string (ofL (x ++ s)), .int .i64 0]) ∧ Below w.heap.size w w' := by
  have h := raw_any (ofL x) (ofL s) 0 w (by rw [ofL_size]; exact hx) (by rw [ofL_size]; exact hs)
  rw [ofL_app] at h
  exact h
end Go.Proofs.YtfbajmiiecmelaaDoor
end
