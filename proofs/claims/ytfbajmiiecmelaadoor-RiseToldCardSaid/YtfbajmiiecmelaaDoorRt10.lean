/-
  PLAIN: what a frame's body is made of: numbers, yes or no, texts, heads; read behind they were written, and written behind they were read. No program is spoken of here. PLAIN: messages: what may be, their bytes, what is read. No program is spoken of here. THE LAST MESSAGES as plain lists. WHAT THE WORDS' TEXTS TAKE FROM BELOW, where a seat holds no lattice.
-/
import Derived.Test.YtfbajmiiecmelaaDoorRt02
import Derived.Test.YtfbajmiiecmelaaDoorRt03
import Derived.Test.YtfbajmiiecmelaaDoorRt06
import Derived.Test.YtfbajmiiecmelaaDoorRt09
import Derived.WalkMore
import Derived.Deep.LoopGhost
section
namespace Go.Proofs.YtfbajmiiecmelaaDoor.Pt
/-- a yes or no that comes next -/
def yesOut (s : LSt) : Bool := Oct.val (lOut s.1 1) == 1
def yesIn (s : LSt) : LSt := if 1 < Oct.val (lOut s.1 1) then lFail (lRaw s 1) 4 else lRaw s 1
def yesEnc (b : Bool) : List UInt8 := if b then [1] else [0]
/-! ### written, then read -/
/-! ### read, then written -/
theorem chain {s s1 s2 s3 : LSt} {a b c : List UInt8} (h1 : s = (a ++ s1.1, 0)) (h2 : s1 = (b ++ s2.1, 0)) (h3 : s2 = (c ++ s3.1, 0)) : s = (a ++ b ++ c ++ s3.1, 0) := by
  have e1 := congrArg Prod.fst h2
  have e2 := congrArg Prod.fst h3
  simp only at e1 e2
  rw [h1, e1, e2]
  simp [List.append_assoc]
end Go.Proofs.YtfbajmiiecmelaaDoor.Pt
end
section
namespace Go.Proofs.YtfbajmiiecmelaaDoor
structure Ml where
  id : Nat
  shop : List UInt8
  key : List UInt8
  head : List Hd.Pr
  body : List UInt8
  due : Nat
  hops : Nat
deriving DecidableEq
namespace Ml
def zero : Ml := ⟨0, [], [], [], [], 0, 0⟩
/-- what is wrong with a message -/
def code (x : Ml) : Nat :=
  if Wrd.nameCode x.shop ≠ 0 then Wrd.nameCode x.shop else
  if Wrd.keyCode [] x.key ≠ 0 then Wrd.keyCode [] x.key else
  if Hd.hcode x.head ≠ 0 then Hd.hcode x.head else
  if 256 < x.body.length then 5 else
  if 4 < x.hops then 7 else 0
/-- numbers that their types hold -/
structure Fits (x : Ml) : Prop where
  id : x.id < 18446744073709551616
  due : x.due < 18446744073709551616
  hops : x.hops < 256
  head : ∀ p ∈ x.head, Hd.Fits p
theorem code_ok {x : Ml} (h : code x = 0) : Wrd.nameCode x.shop = 0 ∧ Wrd.keyCode [] x.key = 0 ∧ Hd.hcode x.head = 0 ∧ x.body.length ≤ 256 ∧ x.hops ≤ 4 := by
  unfold code at h
  by_cases h1 : Wrd.nameCode x.shop = 0
  · rw [if_neg (by omega)] at h
    by_cases h2 : Wrd.keyCode [] x.key = 0
    · rw [if_neg (by omega)] at h
      by_cases h3 : Hd.hcode x.head = 0
      · rw [if_neg (by omega)] at h
        by_cases h4 : 256 < x.body.length
        · rw [if_pos h4] at h; omega
        · rw [if_neg h4] at h
          by_cases h5 : 4 < x.hops
          · rw [if_pos h5] at h; omega
          · exact ⟨h1, h2, h3, by omega, by omega⟩
      · rw [if_pos h3] at h; exact absurd h h3
    · rw [if_pos h2] at h; exact absurd h h2
  · rw [if_pos h1] at h; exact absurd h h1
/-- its bytes, as far as its head -/
def enc (x : Ml) : List UInt8 := Oct.be 8 x.id ++ (Oct.text x.shop ++ (Oct.text x.key ++ (Hd.henc x.head ++ (Oct.text x.body ++ (Oct.be 8 x.due ++ Oct.be 1 x.hops)))))
/-- what is read, field by field -/
def s1 (s : LSt) : LSt := lRaw s 8
def s2 (s : LSt) : LSt := lText (s1 s) 16
def s3 (s : LSt) : LSt := lText (s2 s) 64
def s4 (s : LSt) : LSt := (Hd.hread (s3 s)).2
def s5 (s : LSt) : LSt := lText (s4 s) 256
def s6 (s : LSt) : LSt := lRaw (s5 s) 8
def got (s : LSt) : Ml := ⟨Oct.val (lOut s.1 8), lTextOut (s1 s) 16, lTextOut (s2 s) 64, (Hd.hread (s3 s)).1, lTextOut (s4 s) 256, Oct.val (lOut (s5 s).1 8), Oct.val (lOut (s6 s).1 1)⟩
theorem key_len {bs : List (List UInt8)} {l : List UInt8} (h : Wrd.keyCode bs l = 0) : l.length ≤ 64 := by
  unfold Wrd.keyCode at h
  by_cases h1 : 64 < l.length
  · rw [if_pos h1] at h; omega
  · omega
end Ml
end Go.Proofs.YtfbajmiiecmelaaDoor
end
section
namespace Go.Proofs.YtfbajmiiecmelaaDoor
namespace Rs
/-- one more: how many came, what is kept, what is answered -/
def addT (T : Nat) (x : Ml) : Nat := if x.code ≠ 0 then T else if T = 18446744073709551615 then T else T + 1
def addK (T : Nat) (l : List Ml) (x : Ml) : List Ml := if x.code ≠ 0 then l else if T = 18446744073709551615 then l else l.drop (l.length + 1 - 16) ++ [x]
def addC (T : Nat) (x : Ml) : Nat := if x.code ≠ 0 then x.code else if T = 18446744073709551615 then 18 else 0
/-- those that may be -/
def good (l : List Ml) : List Ml := l.filter fun x => decide (x.code = 0)
theorem good_snoc (l : List Ml) (x : Ml) : good (l ++ [x]) = if x.code ≠ 0 then good l else good l ++ [x] := by
  unfold good
  rw [List.filter_append]
  by_cases h : x.code = 0
  · rw [if_neg (by simpa using h), List.filter_cons_of_pos (by simpa using h)]; simp
  · rw [if_pos h, List.filter_cons_of_neg (by simpa using h)]; simp
theorem good_le (l : List Ml) : (good l).length ≤ l.length := List.length_filter_le _ _
/-- messages behind a row of them: how many, and the last 16 -/
theorem add_good (l : List Ml) (x : Ml) (hl : l.length < 18446744073709551615) :
    addT (good l).length x = (good (l ++ [x])).length ∧ addK (good l).length (lastN 16 (good l)) x = lastN 16 (good (l ++ [x])) ∧ addC (good l).length x = x.code := by
  have hg := good_le l
  have hne : ¬ (good l).length = 18446744073709551615 := by omega
  rw [good_snoc]
  unfold addT addK addC
  by_cases h : x.code = 0
  · have h' : ¬ (x.code ≠ 0) := fun e => e h
    simp only [if_neg h', if_neg hne]
    exact ⟨by simp, lastN_snoc (by decide) _ _, h.symm⟩
  · have h' : x.code ≠ 0 := h
    simp only [if_pos h']
    exact ⟨trivial, trivial, trivial⟩
/-- the first one above a number: its number, its place, is there one? -/
def aftN (T n k : Nat) : Nat := if T ≤ k then 0 else max k (T - n) + 1
def aftI (T n k : Nat) : Nat := max k (T - n) - (T - n)
def aft (T : Nat) (l : List Ml) (k : Nat) : Ml := if T ≤ k then Ml.zero else l.getD (aftI T l.length k) Ml.zero
theorem aftI_lt {T n k : Nat} (h : k < T) (hn : n ≤ T) (h0 : 0 < n) : aftI T n k < n := by unfold aftI; omega
end Rs
end Go.Proofs.YtfbajmiiecmelaaDoor
end
section
namespace Go.Proofs.YtfbajmiiecmelaaDoor
open Go.ChangeShapes Go.WideShapes Go.ChangeAt Go.RowKit
theorem drewN_below {B : Nat} {a w : World} (h : Below B a w) (n : Nat) : Below B a (w.drewN n) := ⟨h.os, h.tape, h.output, h.size, h.block⟩
theorem not_empty {s : ByteArray} (h : s.size ≠ 0) : s.toList.isEmpty = false := by
  rw [Go.ByteArray.toList_eq]
  cases hl : s.data.toList with
  | nil => exact absurd (by show s.data.size = 0; rw [← Array.length_toList, hl]; rfl) h
  | cons b l => rfl
theorem code_ne {n : Nat} (h : n ≠ 0) : ((n : Int) != 0) = true := by rw [bne_iff_ne]; omega
def Box (b : Nat) (x y : Value) (w : World) : Prop := w.cell? ⟨b, 0, none⟩ = some x ∧ w.cell? ⟨b, 1, none⟩ = some y ∧ ∀ j, w.frozen? ⟨b, j, none⟩ = false
theorem Box.new (x y : Value) (t : TypeId) (w : World) : Box w.heap.size x y (w.alloc (.cells #[x, y] t)) := ⟨cell_new _ _ _ _ _ rfl, cell_new _ _ _ _ _ rfl, fun _ => free_new _ _ _ _ _ rfl⟩
theorem Box.below {b B : Nat} {x y : Value} {w w' : World} (h : Box b x y w) (hb : Below B w w') (hB : b < B) : Box b x y w' :=
  ⟨(hb.cell (p := ⟨b, 0, none⟩) hB).trans h.1, (hb.cell (p := ⟨b, 1, none⟩) hB).trans h.2.1, fun j => (hb.frozen (p := ⟨b, j, none⟩) hB).trans (h.2.2 j)⟩
theorem code_eq {n : Nat} (h : n = 0) : ((n : Int) != 0) = false := by rw [h]; rfl
theorem octAwake2_any (w : World) : Calls Tryd.prog 42 #[] w fun x w' => x = .returned (.bool true) ∧ Below w.heap.size w w' := by
  go_enter Tryd.func42, Tryd.ntmps42
  go_wp2_with fail
  refine (octAwake_any _).mono ?_
  rintro x w1 ⟨rfl, b1⟩
  have B1 := Lib.hid b1
  clear b1
  go_wp2_with fail
  go_ret
  exact ⟨rfl, B1.out⟩
end Go.Proofs.YtfbajmiiecmelaaDoor
end
