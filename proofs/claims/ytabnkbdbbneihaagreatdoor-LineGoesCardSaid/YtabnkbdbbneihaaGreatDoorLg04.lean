/-
  PLAIN: what a frame's body is made of: numbers, yes or no, texts, heads; read behind they were written, and written behind they were read. No program is spoken of here. PLAIN: messages: what may be, their bytes, what is read. No program is spoken of here. WHAT ROWS AND TEXTS ARE ASKED ALIKE: the first for which something holds; texts held against each other; a region whose order is drawn.
-/
import Derived.Test.YtabnkbdbbneihaaGreatDoorLg03
import Derived.WalkKit
import Derived.ProofKit
import Derived.Deep.RegionWith
import Derived.StillTailTactics
section
namespace Go.Proofs.YtabnkbdbbneihaaGreatDoor.Pt
/-- a yes or no that comes next -/
def yesOut (s : LSt) : Bool := Oct.val (lOut s.1 1) == 1
def yesIn (s : LSt) : LSt := if 1 < Oct.val (lOut s.1 1) then lFail (lRaw s 1) 4 else lRaw s 1
def yesEnc (b : Bool) : List UInt8 := if b then [1] else [0]
/-! ### written, then read -/
/-! ### read, then written -/
theorem chain {s s1 s2 s3 : LSt} {a b c : List UInt8} (h1 : s = (a ++ s1.1, 0)) (h2 : s1 = (b ++ s2.1, 0)) (h3 : s2 = (c ++ s3.1, 0)) : s = (a ++ b ++ c ++ s3.1, 0) := by
  have e1 := congrArg Prod.fst h2
  have e2 := congrArg Prod.fst h3
  simp only at e1 e2
  rw [h1, e1, e2]
  simp [List.append_assoc]
end Go.Proofs.YtabnkbdbbneihaaGreatDoor.Pt
end
section
namespace Go.Proofs.YtabnkbdbbneihaaGreatDoor
structure Ml where
  id : Nat
  shop : List UInt8
  key : List UInt8
  head : List Hd.Pr
  body : List UInt8
  due : Nat
  hops : Nat
deriving DecidableEq
namespace Ml
def zero : Ml := ⟨0, [], [], [], [], 0, 0⟩
/-- what is wrong with a message -/
def code (x : Ml) : Nat :=
  if Wrd.nameCode x.shop ≠ 0 then Wrd.nameCode x.shop else
  if Wrd.keyCode [] x.key ≠ 0 then Wrd.keyCode [] x.key else
  if Hd.hcode x.head ≠ 0 then Hd.hcode x.head else
  if 256 < x.body.length then 5 else
  if 4 < x.hops then 7 else 0
/-- numbers that their types hold -/
structure Fits (x : Ml) : Prop where
  id : x.id < 18446744073709551616
  due : x.due < 18446744073709551616
  hops : x.hops < 256
  head : ∀ p ∈ x.head, Hd.Fits p
theorem code_ok {x : Ml} (h : code x = 0) : Wrd.nameCode x.shop = 0 ∧ Wrd.keyCode [] x.key = 0 ∧ Hd.hcode x.head = 0 ∧ x.body.length ≤ 256 ∧ x.hops ≤ 4 := by
  unfold code at h
  by_cases h1 : Wrd.nameCode x.shop = 0
  · rw [if_neg (by omega)] at h
    by_cases h2 : Wrd.keyCode [] x.key = 0
    · rw [if_neg (by omega)] at h
      by_cases h3 : Hd.hcode x.head = 0
      · rw [if_neg (by omega)] at h
        by_cases h4 : 256 < x.body.length
        · rw [if_pos h4] at h; omega
        · rw [if_neg h4] at h
          by_cases h5 : 4 < x.hops
          · rw [if_pos h5] at h; omega
          · exact ⟨h1, h2, h3, by omega, by omega⟩
      · rw [if_pos h3] at h; exact absurd h h3
    · rw [if_pos h2] at h; exact absurd h h2
  · rw [if_pos h1] at h; exact absurd h h1
/-- its bytes, as far as its head -/
def enc (x : Ml) : List UInt8 := Oct.be 8 x.id ++ (Oct.text x.shop ++ (Oct.text x.key ++ (Hd.henc x.head ++ (Oct.text x.body ++ (Oct.be 8 x.due ++ Oct.be 1 x.hops)))))
/-- what is read, field by field -/
def s1 (s : LSt) : LSt := lRaw s 8
def s2 (s : LSt) : LSt := lText (s1 s) 16
def s3 (s : LSt) : LSt := lText (s2 s) 64
def s4 (s : LSt) : LSt := (Hd.hread (s3 s)).2
theorem key_len {bs : List (List UInt8)} {l : List UInt8} (h : Wrd.keyCode bs l = 0) : l.length ≤ 64 := by
  unfold Wrd.keyCode at h
  by_cases h1 : 64 < l.length
  · rw [if_pos h1] at h; omega
  · omega
end Ml
end Go.Proofs.YtabnkbdbbneihaaGreatDoor
end
section
namespace Go.Proofs.YtabnkbdbbneihaaGreatDoor
open Go.ChangeShapes Go.WideShapes Go.ChangeAt Go.RowKit
theorem str_list (x : List UInt8) : (ofL x).toList = x := by rw [ByteArray.toList_eq]; rfl
theorem str_same (x y : List UInt8) : ((ofL x).toList == (ofL y).toList) = (x == y) := by rw [str_list, str_list]
theorem cast_beq (a b : Nat) : (((a : Int)) == (b : Int)) = (a == b) := by rw [Bool.eq_iff_iff]; simp only [beq_iff_eq]; omega
/-! ### the first for which something holds -/
def idx {α : Type} (q : α → Bool) (l : List α) : Int := match l.findIdx? q with | some i => (i : Int) | none => -1
theorem idx_none {α : Type} {q : α → Bool} {l : List α} (z : α) (h : ∀ i, i < l.length → q (l.getD i z) = false) : idx q l = -1 := by
  unfold idx
  rw [List.findIdx?_eq_none_iff.2]
  intro x hx
  obtain ⟨i, hi, rfl⟩ := List.getElem_of_mem hx
  have := h i hi
  rwa [List.getD_eq_getElem?_getD, List.getElem?_eq_getElem hi] at this
theorem idx_some {α : Type} {q : α → Bool} {l : List α} (z : α) {k : Nat} (hk : k < l.length) (h : ∀ i, i < k → q (l.getD i z) = false) (hq : q (l.getD k z) = true) : idx q l = k := by
  unfold idx
  have : l.findIdx? q = some k := by
    rw [List.findIdx?_eq_some_iff_getElem]
    refine ⟨hk, ?_, fun j hj => ?_⟩
    · rwa [List.getD_eq_getElem?_getD, List.getElem?_eq_getElem hk] at hq
    · have := h j hj
      rw [List.getD_eq_getElem?_getD, List.getElem?_eq_getElem (by omega)] at this
      have h2 : q l[j] = false := this
      rw [h2]; simp
  rw [this]
theorem idx_any {α : Type} (q : α → Bool) (l : List α) : decide (idx q l ≥ 0) = l.any q := by
  unfold idx
  cases h : l.findIdx? q with
  | none =>
    have := List.findIdx?_eq_none_iff.1 h
    have h2 : l.any q = false := by rw [List.any_eq_false]; intro x hx; rw [this x hx]; simp
    rw [h2]; simp
  | some i =>
    obtain ⟨hi, hq, _⟩ := List.findIdx?_eq_some_iff_getElem.1 h
    have h2 : l.any q = true := List.any_eq_true.2 ⟨_, List.getElem_mem hi, hq⟩
    rw [h2]; simp
theorem idx_lt {α : Type} (q : α → Bool) (l : List α) : -1 ≤ idx q l ∧ idx q l < l.length := by
  unfold idx
  cases h : l.findIdx? q with
  | none => simp; omega
  | some i =>
    obtain ⟨hi, _⟩ := List.findIdx?_eq_some_iff_getElem.1 h
    simp only; omega
/-- a region whose order is drawn, all of whose operations but the last ones only read -/
theorem region_tail {P : Program} {id : Nat} {Q : Exit → Act → World → Prop} {a : Act} {w : World} {l : List Oper} (n : Nat) (hm : P.follows .mixedOrders = true) (hB : Region.lexTailB .any l.toArray n = true)
    (h : wpStill P l.toArray w.drew (fun a' => wpList P l.toArray Q (l.drop n) a' w.drew) (l.take n) a) : (Code.region id l.toArray true).wp P Q a w := wp_region_still_tail n hm hB h
end Go.Proofs.YtabnkbdbbneihaaGreatDoor
end
