/-
  PLAIN: messages: what may be, their bytes, what is read. No program is spoken of here.
-/
import Derived.Test.YtnamkglflhkckaaDoorMa07

section
namespace Go.Proofs.YtnamkglflhkckaaDoor
structure Ml where
  id : Nat
  shop : List UInt8
  key : List UInt8
  head : List Hd.Pr
  body : List UInt8
  due : Nat
  hops : Nat
deriving DecidableEq
namespace Ml
def zero : Ml := ⟨0, [], [], [], [], 0, 0⟩
/-- what is wrong with a message -/
def code (x : Ml) : Nat :=
  if Wrd.nameCode x.shop ≠ 0 then Wrd.nameCode x.shop else
  if Wrd.keyCode [] x.key ≠ 0 then Wrd.keyCode [] x.key else
  if Hd.hcode x.head ≠ 0 then Hd.hcode x.head else
  if 256 < x.body.length then 5 else
  if 4 < x.hops then 7 else 0
/-- numbers that their types hold -/
structure Fits (x : Ml) : Prop where
  id : x.id < 18446744073709551616
  due : x.due < 18446744073709551616
  hops : x.hops < 256
  head : ∀ p ∈ x.head, Hd.Fits p
theorem code_ok {x : Ml} (h : code x = 0) : Wrd.nameCode x.shop = 0 ∧ Wrd.keyCode [] x.key = 0 ∧ Hd.hcode x.head = 0 ∧ x.body.length ≤ 256 ∧ x.hops ≤ 4 := by
  unfold code at h
  by_cases h1 : Wrd.nameCode x.shop = 0
  · rw [if_neg (by omega)] at h
    by_cases h2 : Wrd.keyCode [] x.key = 0
    · rw [if_neg (by omega)] at h
      by_cases h3 : Hd.hcode x.head = 0
      · rw [if_neg (by omega)] at h
        by_cases h4 : 256 < x.body.length
        · rw [if_pos h4] at h; omega
        · rw [if_neg h4] at h
          by_cases h5 : 4 < x.hops
          · rw [if_pos h5] at h; omega
          · exact ⟨h1, h2, h3, by omega, by omega⟩
      · rw [if_pos h3] at h; exact absurd h h3
    · rw [if_pos h2] at h; exact absurd h h2
  · rw [if_pos h1] at h; exact absurd h h1
/-- its bytes, as far as its head -/
def enc (x : Ml) : List UInt8 := Oct.be 8 x.id ++ (Oct.text x.shop ++ (Oct.text x.key ++ (Hd.henc x.head ++ (Oct.text x.body ++ (Oct.be 8 x.due ++ Oct.be 1 x.hops)))))
/-- what is read, field by field -/
def s1 (s : LSt) : LSt := lRaw s 8
def s2 (s : LSt) : LSt := lText (s1 s) 16
def s3 (s : LSt) : LSt := lText (s2 s) 64
def s4 (s : LSt) : LSt := (Hd.hread (s3 s)).2
theorem key_len {bs : List (List UInt8)} {l : List UInt8} (h : Wrd.keyCode bs l = 0) : l.length ≤ 64 := by
  unfold Wrd.keyCode at h
  by_cases h1 : 64 < l.length
  · rw [if_pos h1] at h; omega
  · omega
end Ml
end Go.Proofs.YtnamkglflhkckaaDoor
end
