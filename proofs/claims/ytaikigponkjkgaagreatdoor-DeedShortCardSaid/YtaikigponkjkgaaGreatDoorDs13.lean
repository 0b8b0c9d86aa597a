/-
  PLAIN: replies: what a kind tells, what may be, their bytes, what is read. No program is spoken of here. WHAT A KIND TELLS, in memory: the programs' rows of parts; whether a part is in a row: walked.
-/
import Derived.Test.YtaikigponkjkgaaGreatDoorDs05
import Derived.Test.YtaikigponkjkgaaGreatDoorDs12

section
namespace Go.Proofs.YtaikigponkjkgaaGreatDoor
structure Re where
  ch : UInt8
  kd : UInt8
  n : Nat
  m : Nat
  yes : Bool
  name : List UInt8
  id : Nat
  shop : List UInt8
  key : List UInt8
  head : List Hd.Pr
  body : List UInt8
  due : Nat
  hops : Nat
deriving DecidableEq
namespace Re
def zero (c k : UInt8) : Re := ⟨c, k, 0, 0, false, [], 0, [], [], [], [], 0, 0⟩
/-- what a kind tells, in the order of its bytes: 0 N, 1 M, 2 Yes, 3 Name, 4 Shop, 5 Key, 6 Head, 7 Body -/
def tells (k : Nat) : List Nat :=
  match k with
  | 0 => [3]
  | 2 => [0]
  | 3 => [0, 1, 2, 4, 5, 6, 7]
  | 5 => [0]
  | 6 => [0, 1]
  | 7 => [0]
  | _ => []
theorem tells_lt (k : Nat) : ∀ p ∈ tells k, p < 8 := by
  unfold tells
  split <;> intro p hp <;> simp at hp <;> omega
/-- is a part zero? -/
def lacks (x : Re) (p : Nat) : Bool :=
  if p = 0 then x.n == 0 else if p = 1 then x.m == 0 else if p = 2 then !x.yes else if p = 3 then x.name == [] else if p = 4 then x.shop == [] else if p = 5 then x.key == [] else if p = 6 then x.head.length == 0 else if p = 7 then x.body == [] else (x.id == 0 && x.due == 0 && x.hops == 0)
/-- what is wrong with a part -/
def pcode (x : Re) (p : Nat) : Nat :=
  if p = 3 then Wrd.nameCode x.name else if p = 4 then Wrd.nameCode x.shop else if p = 5 then Wrd.keyCode [] x.key else if p = 6 then Hd.hcode x.head else if p = 7 then (if 256 < x.body.length then 5 else 0) else 0
/-- is something there that its kind doesn't tell? -/
def more (x : Re) : Bool := (List.range 9).any fun p => !(tells x.kd.toNat).contains p && !lacks x p
/-- the first code that isn't 0 -/
def firstc (f : Nat → Nat) : List Nat → Nat
  | [] => 0
  | p :: l => if f p ≠ 0 then f p else firstc f l
/-- what is wrong with a reply -/
def code (x : Re) : Nat := if 7 < x.kd.toNat then 8 else if more x then 4 else firstc (pcode x) (tells x.kd.toNat)
theorem firstc_zero {f : Nat → Nat} {l : List Nat} (h : firstc f l = 0) : ∀ p ∈ l, f p = 0 := by
  induction l with
  | nil => intro p hp; simp at hp
  | cons a l ih =>
    rw [firstc] at h
    by_cases h0 : f a = 0
    · rw [if_neg (by omega)] at h
      intro p hp
      rcases List.mem_cons.1 hp with rfl | hp
      · exact h0
      · exact ih h p hp
    · rw [if_pos h0] at h; exact absurd h h0
theorem code_ok {x : Re} (h : code x = 0) : x.kd.toNat ≤ 7 ∧ more x = false ∧ ∀ p ∈ tells x.kd.toNat, pcode x p = 0 := by
  unfold code at h
  by_cases h1 : 7 < x.kd.toNat
  · rw [if_pos h1] at h; omega
  · rw [if_neg h1] at h
    cases hm : more x with
    | true => rw [hm] at h; simp at h
    | false =>
      rw [hm] at h
      exact ⟨by omega, rfl, firstc_zero (by simpa using h)⟩
/-- numbers that their types hold -/
structure Fits (x : Re) : Prop where
  n : x.n < 18446744073709551616
  m : x.m < 18446744073709551616
  head : ∀ p ∈ x.head, Hd.Fits p

/-! ### its bytes -/
def enc1 (x : Re) (p : Nat) : List UInt8 :=
  if p = 0 then Oct.be 8 x.n else if p = 1 then Oct.be 8 x.m else if p = 2 then Pt.yesEnc x.yes else if p = 3 then Oct.text x.name else if p = 4 then Oct.text x.shop else if p = 5 then Oct.text x.key else if p = 6 then Hd.henc x.head else if p = 7 then Oct.text x.body else []
def enc (x : Re) : List UInt8 := (tells x.kd.toNat).flatMap (enc1 x)
def set1 (y x : Re) (p : Nat) : Re :=
  if p = 0 then {y with n := x.n} else if p = 1 then {y with m := x.m} else if p = 2 then {y with yes := x.yes} else if p = 3 then {y with name := x.name} else if p = 4 then {y with shop := x.shop} else if p = 5 then {y with key := x.key} else if p = 6 then {y with head := x.head} else if p = 7 then {y with body := x.body} else y
/-- the part that comes next -/
def rd1 (y : Re) (s : LSt) (p : Nat) : Re × LSt :=
  if p = 0 then ({y with n := Oct.val (lOut s.1 8)}, lRaw s 8) else if p = 1 then ({y with m := Oct.val (lOut s.1 8)}, lRaw s 8) else if p = 2 then ({y with yes := Pt.yesOut s}, Pt.yesIn s) else if p = 3 then ({y with name := lTextOut s 16}, lText s 16) else if p = 4 then ({y with shop := lTextOut s 16}, lText s 16) else if p = 5 then ({y with key := lTextOut s 64}, lText s 64) else if p = 6 then ({y with head := (Hd.hread s).1}, (Hd.hread s).2) else if p = 7 then ({y with body := lTextOut s 256}, lText s 256) else (y, s)
def rdl (l : List Nat) (t : Re × LSt) : Re × LSt := l.foldl (fun t p => rd1 t.1 t.2 p) t
/-- all that is read of a frame's body -/
def rd (c k : UInt8) (b : List UInt8) : Re × LSt := rdl (tells k.toNat) (zero c k, (b, 0))
/-- a frame's kind, a reply's -/
def up (k : UInt8) : UInt8 := 64 + k
def down (k : UInt8) : UInt8 := k - 64
theorem key_len {bs : List (List UInt8)} {l : List UInt8} (h : Wrd.keyCode bs l = 0) : l.length ≤ 64 := by
  unfold Wrd.keyCode at h
  by_cases h1 : 64 < l.length
  · rw [if_pos h1] at h; omega
  · omega
theorem lt8 {p : Nat} (h : p < 8) : p = 0 ∨ p = 1 ∨ p = 2 ∨ p = 3 ∨ p = 4 ∨ p = 5 ∨ p = 6 ∨ p = 7 := by omega
theorem rd1_front {x y : Re} {p : Nat} (hp : p < 8) (hf : Fits x) (h : pcode x p = 0) (r : List UInt8) : rd1 y (enc1 x p ++ r, 0) p = (set1 y x p, (r, 0)) := by
  rcases lt8 hp with rfl | rfl | rfl | rfl | rfl | rfl | rfl | rfl
  · have t := Pt.num_front hf.n r
    show ({y with n := Oct.val (lOut (Oct.be 8 x.n ++ r) 8)}, lRaw (Oct.be 8 x.n ++ r, 0) 8) = _
    rw [t.1, t.2]; rfl
  · have t := Pt.num_front hf.m r
    show ({y with m := Oct.val (lOut (Oct.be 8 x.m ++ r) 8)}, lRaw (Oct.be 8 x.m ++ r, 0) 8) = _
    rw [t.1, t.2]; rfl
  · have t := Pt.yes_front x.yes r
    show ({y with yes := Pt.yesOut (Pt.yesEnc x.yes ++ r, 0)}, Pt.yesIn (Pt.yesEnc x.yes ++ r, 0)) = _
    rw [t.1, t.2]; rfl
  · have h0 : Wrd.nameCode x.name = 0 := h
    have t := Hd.text_front x.name r 16 (Hd.name_ok_len h0).1 (by decide)
    show ({y with name := lTextOut (Oct.text x.name ++ r, 0) ((16 : Nat) : Int)}, lText (Oct.text x.name ++ r, 0) ((16 : Nat) : Int)) = _
    rw [t.1, t.2]; rfl
  · have h0 : Wrd.nameCode x.shop = 0 := h
    have t := Hd.text_front x.shop r 16 (Hd.name_ok_len h0).1 (by decide)
    show ({y with shop := lTextOut (Oct.text x.shop ++ r, 0) ((16 : Nat) : Int)}, lText (Oct.text x.shop ++ r, 0) ((16 : Nat) : Int)) = _
    rw [t.1, t.2]; rfl
  · have h0 : Wrd.keyCode [] x.key = 0 := h
    have t := Hd.text_front x.key r 64 (key_len h0) (by decide)
    show ({y with key := lTextOut (Oct.text x.key ++ r, 0) ((64 : Nat) : Int)}, lText (Oct.text x.key ++ r, 0) ((64 : Nat) : Int)) = _
    rw [t.1, t.2]; rfl
  · have h0 : Hd.hcode x.head = 0 := h
    have t := Hd.hread_henc hf.head h0 r
    show ({y with head := (Hd.hread (Hd.henc x.head ++ r, 0)).1}, (Hd.hread (Hd.henc x.head ++ r, 0)).2) = _
    rw [t]; rfl
  · have h0 : (if 256 < x.body.length then 5 else 0) = 0 := h
    have hl : x.body.length ≤ 256 := by
      by_cases hh : 256 < x.body.length
      · rw [if_pos hh] at h0; omega
      · omega
    have t := Hd.text_front x.body r 256 hl (by decide)
    show ({y with body := lTextOut (Oct.text x.body ++ r, 0) ((256 : Nat) : Int)}, lText (Oct.text x.body ++ r, 0) ((256 : Nat) : Int)) = _
    rw [t.1, t.2]; rfl
theorem rdl_front {x : Re} (hf : Fits x) : ∀ (l : List Nat) (y : Re) (r : List UInt8), (∀ p ∈ l, p < 8 ∧ pcode x p = 0) → rdl l (y, (l.flatMap (enc1 x) ++ r, 0)) = (l.foldl (fun y p => set1 y x p) y, (r, 0))
  | [], y, r, _ => rfl
  | p :: l, y, r, h => by
    have h0 := h p (by simp)
    rw [List.flatMap_cons, List.append_assoc]
    show rdl l (rd1 y (enc1 x p ++ (l.flatMap (enc1 x) ++ r), 0) p) = _
    rw [rd1_front h0.1 hf h0.2]
    exact rdl_front hf l _ r fun q hq => h q (by simp [hq])
theorem more_no {x : Re} (h : more x = false) {p : Nat} (hp : p < 9) (ht : (tells x.kd.toNat).contains p = false) : lacks x p = true := by
  unfold more at h
  rw [List.any_eq_false] at h
  have := h p (List.mem_range.2 hp)
  rw [ht] at this
  simpa using this
theorem le7 {k : Nat} (h : k ≤ 7) : k = 0 ∨ k = 1 ∨ k = 2 ∨ k = 3 ∨ k = 4 ∨ k = 5 ∨ k = 6 ∨ k = 7 := by omega
/-- zero in what isn't told, the rest is set: it is the reply -/
theorem set_all {x : Re} (h7 : x.kd.toNat ≤ 7) (h : more x = false) : (tells x.kd.toNat).foldl (fun y p => set1 y x p) (zero x.ch x.kd) = x := by
  have hn := fun (hp : (tells x.kd.toNat).contains 0 = false) => more_no h (p := 0) (by decide) hp
  have hm := fun (hp : (tells x.kd.toNat).contains 1 = false) => more_no h (p := 1) (by decide) hp
  have hy := fun (hp : (tells x.kd.toNat).contains 2 = false) => more_no h (p := 2) (by decide) hp
  have hna := fun (hp : (tells x.kd.toNat).contains 3 = false) => more_no h (p := 3) (by decide) hp
  have hs := fun (hp : (tells x.kd.toNat).contains 4 = false) => more_no h (p := 4) (by decide) hp
  have hk := fun (hp : (tells x.kd.toNat).contains 5 = false) => more_no h (p := 5) (by decide) hp
  have hh := fun (hp : (tells x.kd.toNat).contains 6 = false) => more_no h (p := 6) (by decide) hp
  have hb := fun (hp : (tells x.kd.toNat).contains 7 = false) => more_no h (p := 7) (by decide) hp
  have hi := fun (hp : (tells x.kd.toNat).contains 8 = false) => more_no h (p := 8) (by decide) hp
  obtain ⟨c, k, n, m, yes, name, id, shop, key, head, body, due, hops⟩ := x
  simp only [lacks] at *
  rcases le7 h7 with e | e | e | e | e | e | e | e <;> rw [e] at hn hm hy hna hs hk hh hb hi ⊢ <;> simp [tells, set1, zero] at hn hm hy hna hs hk hh hb hi ⊢ <;> simp [*]
/-- a reply that may be, written, is read as it was -/
theorem rd_enc {x : Re} (hf : Fits x) (h : code x = 0) : rd x.ch x.kd (enc x) = (x, ([], 0)) := by
  obtain ⟨h20, hm, hc⟩ := code_ok h
  have := rdl_front hf (tells x.kd.toNat) (zero x.ch x.kd) [] fun p hp => ⟨tells_lt _ p hp, hc p hp⟩
  rw [List.append_nil, set_all h20 hm] at this
  exact this
/-! ### what was read is written so -/
theorem rd1_fits {y : Re} {s : LSt} {p : Nat} (h : Fits y) : Fits (rd1 y s p).1 := by
  have h8 : Oct.val (lOut s.1 8) < 18446744073709551616 := Nat.lt_of_lt_of_le (val_out_lt s.1 8) (by decide)
  obtain ⟨a, b, c⟩ := h
  unfold rd1
  repeat' split
  all_goals first | exact ⟨a, b, c⟩ | exact ⟨a, b, Hd.hread_fits s⟩ | exact ⟨h8, b, c⟩ | exact ⟨a, h8, c⟩
theorem rdl_fits : ∀ (l : List Nat) (t : Re × LSt), Fits t.1 → Fits (rdl l t).1
  | [], _, h => h
  | p :: l, t, h => rdl_fits l (rd1 t.1 t.2 p) (rd1_fits h)
theorem rd_fits (c k : UInt8) (b : List UInt8) : Fits (rd c k b).1 := rdl_fits _ _ ⟨(by decide : (0 : Nat) < 18446744073709551616), (by decide : (0 : Nat) < 18446744073709551616), fun p hp => by simp [zero] at hp⟩
end Re
end Go.Proofs.YtaikigponkjkgaaGreatDoor
end
section
namespace Go.Proofs.YtaikigponkjkgaaGreatDoor
open Go.ChangeShapes Go.WideShapes Go.ChangeAt Go.RowKit
/-- a row of parts -/
def Parts (w : World) (A : Option Addr) (l : List Nat) : Prop := l = [] ∨ ∃ b, A = some ⟨b, 0, none⟩ ∧ b < w.heap.size ∧ Cels w b (l.map fun (p : Nat) => Value.int .i64 (p : Int))
theorem Parts.on {w w' : World} {A : Option Addr} {l : List Nat} (h : Parts w A l) (hb : Below w.heap.size w w') : Parts w' A l := by
  rcases h with h | ⟨b, e, hl, hc⟩
  · exact Or.inl h
  · exact Or.inr ⟨b, e, Nat.lt_of_lt_of_le hl hb.size, hc.on hb hl⟩
theorem Parts.at_ {w : World} {A : Option Addr} {l : List Nat} (h : Parts w A l) {k : Nat} (hk : k < l.length) : ∃ b, A = some ⟨b, 0, none⟩ ∧ b < w.heap.size ∧ w.cell? ⟨b, k, none⟩ = some (.int .i64 ((l.getD k 0 : Nat) : Int)) := by
  rcases h with rfl | ⟨b, e, hl, hc⟩
  · simp at hk
  · refine ⟨b, e, hl, ?_⟩
    refine hc k _ ?_
    rw [List.getElem?_map, List.getElem?_eq_getElem hk]
    simp [List.getD_eq_getElem?_getD, List.getElem?_eq_getElem hk]
theorem Parts.aside {w : World} {A : Option Addr} {l : List Nat} (h : Parts w A l) {g : Nat} (hne : ∀ a, A = some a → g ≠ a.block) (j : Nat) (v : Value) : Parts (w.setCell ⟨g, j, none⟩ v) A l := by
  rcases h with h | ⟨b, e, hl, hc⟩
  · exact Or.inl h
  · exact Or.inr ⟨b, e, by simpa [World.setCell] using hl, hc.aside (hne _ e) j v⟩
theorem Parts.grown {w w' : World} {A : Option Addr} {l : List Nat} {row : Option Nat} (h : Parts w A l) (hg : w.grownBy w' row) (hne : ∀ a, A = some a → some a.block ≠ row) : Parts w' A l := by
  rcases h with h | ⟨b, e, hl, hc⟩
  · exact Or.inl h
  · exact Or.inr ⟨b, e, Nat.lt_of_lt_of_le hl hg.size, hc.grown hg (hne _ e)⟩
end Go.Proofs.YtaikigponkjkgaaGreatDoor
end
