/-
  PLAIN: books: exchanges and bindings; what is done to them. No program is spoken of here.
-/
import Derived.Test.YtgponfdcagnhhaaGreatDoorDl07

section
namespace Go.Proofs.YtgponfdcagnhhaaGreatDoor
structure Sh where
  name : List UInt8
  sort : Nat
  to : List UInt8
deriving DecidableEq
structure Bd where
  shop : List UInt8
  to : List UInt8
  up : Bool
  key : List UInt8
  want : List Hd.Pr
  all : Bool
deriving DecidableEq
structure Bk where
  shops : List Sh
  binds : List Bd
deriving DecidableEq
namespace Bk
def Sh0 : Sh := ⟨[], 0, []⟩
def Bd0 : Bd := ⟨[], [], false, [], [], false⟩
def empty : Bk := ⟨[], []⟩
/-- what is wrong with a key, by the sort -/
def kcode (sort : Nat) (x : Bd) : Nat := if sort = 0 then Wrd.keyCode [] x.key else Wrd.keyCode [Wrd.star, Wrd.hash] x.key
/-- what is wrong with a binding's rule, by the sort -/
def rcode (sort : Nat) (x : Bd) : Nat := if 3 < sort then 8 else if kcode sort x ≠ 0 then kcode sort x else Hd.hcode x.want
/-- what is wrong with an exchange by itself -/
def scode (x : Sh) : Nat :=
  if Wrd.nameCode x.name ≠ 0 then Wrd.nameCode x.name else
  if 4 < x.sort then 8 else
  if x.sort = 4 then Wrd.nameCode x.to else
  if x.to ≠ [] then 4 else 0
def shop (b : Bk) (name : List UInt8) : Option Sh := b.shops.find? fun x => x.name == name
/-- an exchange more -/
def make (b : Bk) (x : Sh) : Bk × Nat :=
  if scode x ≠ 0 then (b, scode x) else
  match b.shop x.name with
  | some y => if y = x then (b, 0) else (b, 9)
  | none => if 8 ≤ b.shops.length then (b, 12) else (⟨b.shops ++ [x], b.binds⟩, 0)
def drop (b : Bk) (name : List UInt8) : Bk × Nat :=
  match b.shop name with
  | some _ => (⟨b.shops.filter fun x => !(x.name == name), b.binds.filter fun x => !(x.shop == name)⟩, 0)
  | none => (b, 10)
/-- what is wrong with a binding in a book -/
def bcode (b : Bk) (x : Bd) : Nat :=
  match b.shop x.shop with
  | none => 10
  | some s => if s.sort = 4 then 8 else if Wrd.nameCode x.to ≠ 0 then Wrd.nameCode x.to else rcode s.sort x
def bind (b : Bk) (x : Bd) : Bk × Nat :=
  if bcode b x ≠ 0 then (b, bcode b x) else
  if x ∈ b.binds then (b, 0) else
  if 32 ≤ b.binds.length then (b, 12) else (⟨b.shops, b.binds ++ [x]⟩, 0)
def unbind (b : Bk) (x : Bd) : Bk × Nat :=
  if x ∈ b.binds then (⟨b.shops, b.binds.filter fun y => !(decide (x = y))⟩, 0) else (b, 10)
def forget (b : Bk) (q : List UInt8) : Bk := ⟨b.shops, b.binds.filter fun y => y.up || !(y.to == q)⟩
/-- names, each once -/
def put (l : List (List UInt8)) (s : List UInt8) : List (List UInt8) := if s ∈ l then l else l ++ [s]

/-- what holds of every book that was made -/
structure Ok (b : Bk) : Prop where
  shops : ∀ x ∈ b.shops, scode x = 0
  len : b.shops.length ≤ 8
  once : b.shops.Pairwise fun x y => x.name ≠ y.name
  binds : ∀ x ∈ b.binds, bcode b x = 0
  blen : b.binds.length ≤ 32
theorem Ok.empty : Ok empty := ⟨by simp [Bk.empty], by simp [Bk.empty], by simp [Bk.empty], by simp [Bk.empty], by simp [Bk.empty]⟩
theorem shop_app {b : Bk} {x : Sh} {n : List UInt8} {s : Sh} (h : b.shop n = some s) : (⟨b.shops ++ [x], b.binds⟩ : Bk).shop n = some s := by
  unfold shop at h ⊢
  rw [List.find?_append, h]
  rfl
theorem bcode_shop {b c : Bk} {x : Bd} (h : c.shop x.shop = b.shop x.shop) : bcode c x = bcode b x := by unfold bcode; rw [h]
theorem Ok.make {b : Bk} (hb : Ok b) (x : Sh) : Ok (b.make x).1 := by
  unfold Bk.make
  by_cases hs : scode x = 0
  · rw [if_neg (by omega)]
    cases hf : b.shop x.name with
    | some y => dsimp only; split <;> exact hb
    | none =>
      dsimp only
      by_cases h8 : 8 ≤ b.shops.length
      · rw [if_pos h8]; exact hb
      · rw [if_neg h8]
        refine ⟨fun y hy => ?_, ?_, ?_, fun y hy => ?_, hb.blen⟩
        · rcases List.mem_append.1 hy with hy | hy
          · exact hb.shops y hy
          · rw [List.mem_singleton] at hy; rw [hy]; exact hs
        · show (b.shops ++ [x]).length ≤ 8
          rw [List.length_append, List.length_singleton]; omega
        · show (b.shops ++ [x]).Pairwise _
          rw [List.pairwise_append]
          refine ⟨hb.once, by simp, fun y hy z hz => ?_⟩
          rw [List.mem_singleton] at hz
          subst hz
          unfold shop at hf
          rw [List.find?_eq_none] at hf
          simpa using hf y hy
        · have h0 := hb.binds y hy
          cases hy2 : b.shop y.shop with
          | none => unfold bcode at h0; rw [hy2] at h0; dsimp only at h0; omega
          | some s => rw [bcode_shop ((shop_app hy2).trans hy2.symm)]; exact h0
  · rw [if_pos hs]; exact hb
theorem shop_drop {b : Bk} {n m : List UInt8} (h : m ≠ n) (l : List Bd) : (⟨b.shops.filter fun x => !(x.name == n), l⟩ : Bk).shop m = b.shop m := by
  unfold shop
  rw [List.find?_filter]
  congr 1
  funext x
  by_cases e : x.name = m
  · simp [e, h]
  · simp [e]
theorem Ok.drop {b : Bk} (hb : Ok b) (n : List UInt8) : Ok (b.drop n).1 := by
  unfold Bk.drop
  cases hf : b.shop n with
  | none => exact hb
  | some s =>
    refine ⟨fun y hy => hb.shops y (List.mem_filter.1 hy).1, Nat.le_trans (List.length_filter_le _ _) hb.len, hb.once.filter _, fun y hy => ?_, Nat.le_trans (List.length_filter_le _ _) hb.blen⟩
    have hm := List.mem_filter.1 hy
    have hne : y.shop ≠ n := by simpa using hm.2
    exact (bcode_shop (shop_drop hne _)).trans (hb.binds y hm.1)
theorem Ok.bind {b : Bk} (hb : Ok b) (x : Bd) : Ok (b.bind x).1 := by
  unfold Bk.bind
  by_cases hs : bcode b x = 0
  · rw [if_neg (by omega)]
    by_cases hx : x ∈ b.binds
    · rw [if_pos hx]; exact hb
    · rw [if_neg hx]
      by_cases h32 : 32 ≤ b.binds.length
      · rw [if_pos h32]; exact hb
      · rw [if_neg h32]
        refine ⟨hb.shops, hb.len, hb.once, fun y hy => ?_, ?_⟩
        · rcases List.mem_append.1 hy with hy | hy
          · exact hb.binds y hy
          · rw [List.mem_singleton] at hy; rw [hy]; exact hs
        · show (b.binds ++ [x]).length ≤ 32
          rw [List.length_append, List.length_singleton]; omega
  · rw [if_pos hs]; exact hb
theorem Ok.some_binds {b : Bk} (hb : Ok b) (p : Bd → Bool) : Ok ⟨b.shops, b.binds.filter p⟩ :=
  ⟨hb.shops, hb.len, hb.once, fun y hy => (bcode_shop rfl).trans (hb.binds y (List.mem_filter.1 hy).1), Nat.le_trans (List.length_filter_le _ _) hb.blen⟩
theorem Ok.unbind {b : Bk} (hb : Ok b) (x : Bd) : Ok (b.unbind x).1 := by
  unfold Bk.unbind
  split
  · exact hb.some_binds _
  · exact hb
theorem Ok.forget {b : Bk} (hb : Ok b) (q : List UInt8) : Ok (b.forget q) := hb.some_binds _
end Bk
end Go.Proofs.YtgponfdcagnhhaaGreatDoor
end
