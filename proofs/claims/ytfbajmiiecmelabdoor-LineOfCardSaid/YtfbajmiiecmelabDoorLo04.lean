/-
  PLAIN: what a frame's body is made of: numbers, yes or no, texts, heads; read behind they were written, and written behind they were read. No program is spoken of here. PLAIN: messages: what may be, their bytes, what is read. No program is spoken of here. WHAT ROWS AND TEXTS ARE ASKED ALIKE: the first for which something holds; texts held against each other; a region whose order is drawn. A LINE, plain: messages by rising numbers; lent, brought back, taken away, woken.
-/
import Derived.Test.YtfbajmiiecmelabDoorLo03
import Derived.WalkKit
import Derived.ProofKit
import Derived.Deep.RegionWith
import Derived.StillTailTactics
section
namespace Go.Proofs.YtfbajmiiecmelabDoor.Pt
/-- a yes or no that comes next -/
def yesOut (s : LSt) : Bool := Oct.val (lOut s.1 1) == 1
def yesIn (s : LSt) : LSt := if 1 < Oct.val (lOut s.1 1) then lFail (lRaw s 1) 4 else lRaw s 1
def yesEnc (b : Bool) : List UInt8 := if b then [1] else [0]
/-! ### written, then read -/
/-! ### read, then written -/
end Go.Proofs.YtfbajmiiecmelabDoor.Pt
end
section
namespace Go.Proofs.YtfbajmiiecmelabDoor
structure Ml where
  id : Nat
  shop : List UInt8
  key : List UInt8
  head : List Hd.Pr
  body : List UInt8
  due : Nat
  hops : Nat
deriving DecidableEq
namespace Ml
def zero : Ml := ⟨0, [], [], [], [], 0, 0⟩
/-- what is wrong with a message -/
def code (x : Ml) : Nat :=
  if Wrd.nameCode x.shop ≠ 0 then Wrd.nameCode x.shop else
  if Wrd.keyCode [] x.key ≠ 0 then Wrd.keyCode [] x.key else
  if Hd.hcode x.head ≠ 0 then Hd.hcode x.head else
  if 256 < x.body.length then 5 else
  if 4 < x.hops then 7 else 0
/-- numbers that their types hold -/
structure Fits (x : Ml) : Prop where
  id : x.id < 18446744073709551616
  due : x.due < 18446744073709551616
  hops : x.hops < 256
  head : ∀ p ∈ x.head, Hd.Fits p
theorem code_ok {x : Ml} (h : code x = 0) : Wrd.nameCode x.shop = 0 ∧ Wrd.keyCode [] x.key = 0 ∧ Hd.hcode x.head = 0 ∧ x.body.length ≤ 256 ∧ x.hops ≤ 4 := by
  unfold code at h
  by_cases h1 : Wrd.nameCode x.shop = 0
  · rw [if_neg (by omega)] at h
    by_cases h2 : Wrd.keyCode [] x.key = 0
    · rw [if_neg (by omega)] at h
      by_cases h3 : Hd.hcode x.head = 0
      · rw [if_neg (by omega)] at h
        by_cases h4 : 256 < x.body.length
        · rw [if_pos h4] at h; omega
        · rw [if_neg h4] at h
          by_cases h5 : 4 < x.hops
          · rw [if_pos h5] at h; omega
          · exact ⟨h1, h2, h3, by omega, by omega⟩
      · rw [if_pos h3] at h; exact absurd h h3
    · rw [if_pos h2] at h; exact absurd h h2
  · rw [if_pos h1] at h; exact absurd h h1
/-- its bytes, as far as its head -/
def enc (x : Ml) : List UInt8 := Oct.be 8 x.id ++ (Oct.text x.shop ++ (Oct.text x.key ++ (Hd.henc x.head ++ (Oct.text x.body ++ (Oct.be 8 x.due ++ Oct.be 1 x.hops)))))
/-- what is read, field by field -/
def s1 (s : LSt) : LSt := lRaw s 8
def s2 (s : LSt) : LSt := lText (s1 s) 16
def s3 (s : LSt) : LSt := lText (s2 s) 64
def s4 (s : LSt) : LSt := (Hd.hread (s3 s)).2
theorem key_len {bs : List (List UInt8)} {l : List UInt8} (h : Wrd.keyCode bs l = 0) : l.length ≤ 64 := by
  unfold Wrd.keyCode at h
  by_cases h1 : 64 < l.length
  · rw [if_pos h1] at h; omega
  · omega
end Ml
end Go.Proofs.YtfbajmiiecmelabDoor
end
section
namespace Go.Proofs.YtfbajmiiecmelabDoor
open Go.ChangeShapes Go.WideShapes Go.ChangeAt Go.RowKit
theorem str_list (x : List UInt8) : (ofL x).toList = x := by rw [ByteArray.toList_eq]; rfl
theorem str_same (x y : List UInt8) : ((ofL x).toList == (ofL y).toList) = (x == y) := by rw [str_list, str_list]
theorem cast_beq (a b : Nat) : (((a : Int)) == (b : Int)) = (a == b) := by rw [Bool.eq_iff_iff]; simp only [beq_iff_eq]; omega
/-! ### the first for which something holds -/
def idx {α : Type} (q : α → Bool) (l : List α) : Int := match l.findIdx? q with | some i => (i : Int) | none => -1
theorem idx_none {α : Type} {q : α → Bool} {l : List α} (z : α) (h : ∀ i, i < l.length → q (l.getD i z) = false) : idx q l = -1 := by
  unfold idx
  rw [List.findIdx?_eq_none_iff.2]
  intro x hx
  obtain ⟨i, hi, rfl⟩ := List.getElem_of_mem hx
  have := h i hi
  rwa [List.getD_eq_getElem?_getD, List.getElem?_eq_getElem hi] at this
theorem idx_some {α : Type} {q : α → Bool} {l : List α} (z : α) {k : Nat} (hk : k < l.length) (h : ∀ i, i < k → q (l.getD i z) = false) (hq : q (l.getD k z) = true) : idx q l = k := by
  unfold idx
  have : l.findIdx? q = some k := by
    rw [List.findIdx?_eq_some_iff_getElem]
    refine ⟨hk, ?_, fun j hj => ?_⟩
    · rwa [List.getD_eq_getElem?_getD, List.getElem?_eq_getElem hk] at hq
    · have := h j hj
      rw [List.getD_eq_getElem?_getD, List.getElem?_eq_getElem (by omega)] at this
      have h2 : q l[j] = false := this
      rw [h2]; simp
  rw [this]
theorem idx_any {α : Type} (q : α → Bool) (l : List α) : decide (idx q l ≥ 0) = l.any q := by
  unfold idx
  cases h : l.findIdx? q with
  | none =>
    have := List.findIdx?_eq_none_iff.1 h
    have h2 : l.any q = false := by rw [List.any_eq_false]; intro x hx; rw [this x hx]; simp
    rw [h2]; simp
  | some i =>
    obtain ⟨hi, hq, _⟩ := List.findIdx?_eq_some_iff_getElem.1 h
    have h2 : l.any q = true := List.any_eq_true.2 ⟨_, List.getElem_mem hi, hq⟩
    rw [h2]; simp
theorem idx_lt {α : Type} (q : α → Bool) (l : List α) : -1 ≤ idx q l ∧ idx q l < l.length := by
  unfold idx
  cases h : l.findIdx? q with
  | none => simp; omega
  | some i =>
    obtain ⟨hi, _⟩ := List.findIdx?_eq_some_iff_getElem.1 h
    simp only; omega
/-- a region whose order is drawn, all of whose operations but the last ones only read -/
theorem region_tail {P : Program} {id : Nat} {Q : Exit → Act → World → Prop} {a : Act} {w : World} {l : List Oper} (n : Nat) (hm : P.follows .mixedOrders = true) (hB : Region.lexTailB .any l.toArray n = true)
    (h : wpStill P l.toArray w.drew (fun a' => wpList P l.toArray Q (l.drop n) a' w.drew) (l.take n) a) : (Code.region id l.toArray true).wp P Q a w := wp_region_still_tail n hm hB h
end Go.Proofs.YtfbajmiiecmelabDoor
end
section
namespace Go.Proofs.YtfbajmiiecmelabDoor
structure It where
  m : Ml
  lent : Bool
  again : Bool
deriving DecidableEq
def it0 : It := ⟨Ml.zero, false, false⟩
namespace Ln
def Rises (l : List It) : Prop := l.Pairwise fun x y => x.m.id < y.m.id
def lastId (l : List It) : Nat := (l.getD (l.length - 1) it0).m.id
def acode (l : List It) (x : It) : Nat := if x.m.code ≠ 0 then x.m.code else if 0 < l.length ∧ x.m.id ≤ lastId l then 13 else if 64 ≤ l.length then 12 else 0
def add (l : List It) (x : It) : List It := if acode l x = 0 then l ++ [x] else l
/-- what is made of items one by one, and what is wrong -/
def of : List It → List It → List It × Nat
  | l, [] => (l, 0)
  | l, x :: t => if acode l x = 0 then of (l ++ [x]) t else ([], acode l x)
def rdy (x : It) : Bool := !x.lent
def back1 (x : It) : It := ⟨x.m, false, x.again || x.lent⟩
def next (l : List It) : Int := idx rdy l
def find (l : List It) (i : Nat) : Int := idx (fun x => x.m.id == i) l
def lendAll (l : List It) (i : Nat) : List It := l.map fun y => ⟨y.m, y.lent || y.m.id == i, y.again⟩
def lend (l : List It) : List It := if next l < 0 then l else lendAll l (l.getD (next l).toNat it0).m.id
def lentIt (l : List It) : It := if next l < 0 then it0 else (lend l).getD (next l).toNat it0
def backAll (l : List It) (i : Nat) : List It := l.map fun y => if y.m.id == i then back1 y else y
def bcode (l : List It) (i : Nat) : Nat := if find l i < 0 then 10 else if (l.getD (find l i).toNat it0).lent = false then 13 else 0
def back (l : List It) (i : Nat) : List It := if bcode l i = 0 then backAll l i else l
def remove (l : List It) (i : Nat) : List It := if find l i < 0 then l else l.eraseIdx (find l i).toNat
def gone (l : List It) (i : Nat) : It := if find l i < 0 then it0 else l.getD (find l i).toNat it0
def wake (l : List It) : List It := l.map back1
def late (t : Nat) (x : It) : Bool := !x.lent && (x.m.due != 0 && decide (x.m.due ≤ t))
theorem idx_ge {α : Type} {q : α → Bool} {l : List α} (z : α) (h : ¬ idx q l < 0) : ∃ k : Nat, idx q l = k ∧ k < l.length ∧ q (l.getD k z) = true ∧ ∀ i, i < k → q (l.getD i z) = false := by
  unfold idx at h ⊢
  cases e : l.findIdx? q with
  | none => rw [e] at h; simp at h
  | some k =>
    obtain ⟨hk, hq, hn⟩ := List.findIdx?_eq_some_iff_getElem.1 e
    refine ⟨k, rfl, hk, ?_, fun i hi => ?_⟩
    · rw [List.getD_eq_getElem?_getD, List.getElem?_eq_getElem hk]; exact hq
    · rw [List.getD_eq_getElem?_getD, List.getElem?_eq_getElem (by omega)]
      have := hn i hi
      simpa using this
theorem getD_lt {α : Type} {l : List α} {i : Nat} (h : i < l.length) (z : α) : l.getD i z = l[i] := by rw [List.getD_eq_getElem?_getD, List.getElem?_eq_getElem h]; rfl
theorem Rises.at_ {l : List It} (h : Rises l) {i j : Nat} (hij : i < j) (hj : j < l.length) : (l.getD i it0).m.id < (l.getD j it0).m.id := by
  rw [getD_lt (by omega), getD_lt hj]
  exact List.pairwise_iff_getElem.1 h i j (by omega) hj hij
theorem Rises.last {l : List It} (h : Rises l) : ∀ x ∈ l, x.m.id ≤ lastId l := by
  intro x hx
  obtain ⟨i, hi, rfl⟩ := List.getElem_of_mem hx
  unfold lastId
  by_cases e : i = l.length - 1
  · rw [getD_lt (by omega)]; simp [e]
  · have := h.at_ (i := i) (j := l.length - 1) (by omega) (by omega)
    rw [getD_lt hi] at this
    omega
theorem Rises.snoc {l : List It} (h : Rises l) {x : It} (hx : ∀ y ∈ l, y.m.id < x.m.id) : Rises (l ++ [x]) := by
  unfold Rises
  rw [List.pairwise_append]
  exact ⟨h, List.pairwise_singleton _ _, fun a ha b hb => by rw [List.mem_singleton.1 hb]; exact hx a ha⟩
theorem acode_ok {l : List It} {x : It} (h : acode l x = 0) : x.m.code = 0 ∧ (0 < l.length → lastId l < x.m.id) ∧ l.length < 64 := by
  unfold acode at h
  split at h
  · omega
  · split at h
    · omega
    · split at h
      · omega
      · rename_i h1 h2 h3
        exact ⟨by omega, fun h4 => by omega, by omega⟩
/-- such lines come about -/
structure Fine (l : List It) : Prop where
  rises : Rises l
  len : l.length ≤ 64
  ok : ∀ x ∈ l, x.m.code = 0 ∧ Ml.Fits x.m
theorem Fine.nil : Fine [] := ⟨List.Pairwise.nil, by simp, fun x hx => by simp at hx⟩
theorem Fine.add {l : List It} (h : Fine l) {x : It} (hf : Ml.Fits x.m) : Fine (add l x) := by
  unfold Ln.add
  split
  · rename_i h0
    obtain ⟨h1, h2, h3⟩ := acode_ok h0
    refine ⟨h.rises.snoc fun y hy => ?_, by simp; omega, fun y hy => ?_⟩
    · have := h.rises.last y hy
      have := h2 (List.length_pos_of_mem hy)
      omega
    · rcases List.mem_append.1 hy with hy | hy
      · exact h.ok y hy
      · obtain rfl := List.mem_singleton.1 hy; exact ⟨h1, hf⟩
  · exact h
/-- a map that leaves the messages alone -/
theorem Fine.map {l : List It} (h : Fine l) {f : It → It} (hf : ∀ x, (f x).m = x.m) : Fine (l.map f) := by
  refine ⟨?_, by simp [h.len], fun y hy => ?_⟩
  · unfold Rises
    rw [List.pairwise_map]
    exact h.rises.imp fun {a b} hab => by rw [hf, hf]; exact hab
  · obtain ⟨x, hx, rfl⟩ := List.mem_map.1 hy
    rw [hf]; exact h.ok x hx
theorem Fine.lendAll {l : List It} (h : Fine l) (i : Nat) : Fine (lendAll l i) := h.map fun _ => rfl
theorem Fine.lend {l : List It} (h : Fine l) : Fine (lend l) := by
  unfold Ln.lend
  split
  · exact h
  · exact h.lendAll _
theorem Fine.backAll {l : List It} (h : Fine l) (i : Nat) : Fine (backAll l i) := h.map fun x => by split <;> rfl
theorem Fine.back {l : List It} (h : Fine l) (i : Nat) : Fine (back l i) := by
  unfold Ln.back
  split
  · exact h.backAll _
  · exact h
theorem Fine.wake {l : List It} (h : Fine l) : Fine (wake l) := h.map fun _ => rfl
theorem Fine.remove {l : List It} (h : Fine l) (i : Nat) : Fine (remove l i) := by
  unfold Ln.remove
  split
  · exact h
  · exact ⟨h.rises.sublist (List.eraseIdx_sublist ..), Nat.le_trans (List.length_eraseIdx_le ..) h.len, fun x hx => h.ok x (List.mem_of_mem_eraseIdx hx)⟩
/-! ### counted -/
theorem Rises.inj {l : List It} (h : Rises l) {i j : Nat} (hi : i < l.length) (hj : j < l.length) (e : (l.getD i it0).m.id = (l.getD j it0).m.id) : i = j := by
  rcases Nat.lt_trichotomy i j with h1 | h1 | h1
  · have := h.at_ h1 hj; omega
  · exact h1
  · have := h.at_ h1 hi; omega
/-! ### woken, and lent one by one -/
/-! ### as the document does it -/
end Ln
end Go.Proofs.YtfbajmiiecmelabDoor
end
