/-
 A part of the proof.
-/
import Derived.Test.YtaikigponkjkgaaGreatDoorXr03
import Derived.WalkKit
import Derived.ProofKit
import Derived.OpenShut
import Derived.Below
import Derived.Laws.AppendOwn
import Derived.Deep.AppendLies
import Derived.Deep.LoopGhost
import Derived.Laws.AppendOwnNone
import Derived.ArgAppend
import Derived.Lib.Walk
import Derived.Lib.SliceRun
import Derived.Lib.AppendZerosOnto
section
namespace Go.Proofs.YtaikigponkjkgaaGreatDoor
structure Sh where
 name : List UInt8
 sort : Nat
 to : List UInt8
deriving DecidableEq
structure Bd where
 shop : List UInt8
 to : List UInt8
 up : Bool
 key : List UInt8
 want : List Hd.Pr
 all : Bool
deriving DecidableEq
structure Bk where
 shops : List Sh
 binds : List Bd
deriving DecidableEq
namespace Bk
def Sh0 : Sh := ⟨[], 0, []⟩
def Bd0 : Bd := ⟨[], [], false, [], [], false⟩
def empty : Bk := ⟨[], []⟩
def kcode (sort : Nat) (x : Bd) : Nat := if sort = 0 then Wrd.keyCode [] x.key else Wrd.keyCode [Wrd.star, Wrd.hash] x.key
def rcode (sort : Nat) (x : Bd) : Nat := if 3 < sort then 8 else if kcode sort x ≠ 0 then kcode sort x else Hd.hcode x.want
def scode (x : Sh) : Nat :=
 if Wrd.nameCode x.name ≠ 0 then Wrd.nameCode x.name else
 if 4 < x.sort then 8 else
 if x.sort = 4 then Wrd.nameCode x.to else
 if x.to ≠ [] then 4 else 0
def shop (b : Bk) (name : List UInt8) : Option Sh := b.shops.find? fun x => x.name == name
def make (b : Bk) (x : Sh) : Bk × Nat :=
 if scode x ≠ 0 then (b, scode x) else
 match b.shop x.name with
 | some y => if y = x then (b, 0) else (b, 9)
 | none => if 8 ≤ b.shops.length then (b, 12) else (⟨b.shops ++ [x], b.binds⟩, 0)
def drop (b : Bk) (name : List UInt8) : Bk × Nat :=
 match b.shop name with
 | some _ => (⟨b.shops.filter fun x => !(x.name == name), b.binds.filter fun x => !(x.shop == name)⟩, 0)
 | none => (b, 10)
def bcode (b : Bk) (x : Bd) : Nat :=
 match b.shop x.shop with
 | none => 10
 | some s => if s.sort = 4 then 8 else if Wrd.nameCode x.to ≠ 0 then Wrd.nameCode x.to else rcode s.sort x
def bind (b : Bk) (x : Bd) : Bk × Nat :=
 if bcode b x ≠ 0 then (b, bcode b x) else
 if x ∈ b.binds then (b, 0) else
 if 32 ≤ b.binds.length then (b, 12) else (⟨b.shops, b.binds ++ [x]⟩, 0)
def unbind (b : Bk) (x : Bd) : Bk × Nat :=
 if x ∈ b.binds then (⟨b.shops, b.binds.filter fun y => !(decide (x = y))⟩, 0) else (b, 10)
def forget (b : Bk) (q : List UInt8) : Bk := ⟨b.shops, b.binds.filter fun y => y.up || !(y.to == q)⟩
def put (l : List (List UInt8)) (s : List UInt8) : List (List UInt8) := if s ∈ l then l else l ++ [s]

structure Ok (b : Bk) : Prop where
 shops : ∀ x ∈ b.shops, scode x = 0
 len : b.shops.length ≤ 8
 once : b.shops.Pairwise fun x y => x.name ≠ y.name
 binds : ∀ x ∈ b.binds, bcode b x = 0
 blen : b.binds.length ≤ 32
theorem Ok.empty : Ok empty := ⟨by simp [Bk.empty], by simp [Bk.empty], by simp [Bk.empty], by simp [Bk.empty], by simp [Bk.empty]⟩
theorem shop_mem {b : Bk} {n : List UInt8} {s : Sh} (h : b.shop n = some s) : s ∈ b.shops ∧ s.name = n := by
 unfold shop at h
 exact ⟨List.mem_of_find?_eq_some h, by simpa using List.find?_some h⟩
theorem make_first {b : Bk} (hb : Ok b) (x : Sh) : make b x = if b.shop x.name = some x then (b, 0) else if scode x ≠ 0 then (b, scode x) else if (b.shop x.name).isSome then (b, 9) else if 8 ≤ b.shops.length then (b, 12) else (⟨b.shops ++ [x], b.binds⟩, 0) := by
 unfold make
 by_cases h : b.shop x.name = some x
 ·rw [if_pos h, if_neg (by have := hb.shops x (shop_mem h).1; omega), h]
  simp
 ·rw [if_neg h]
  by_cases hs : scode x = 0
  ·have hn : ¬ scode x ≠ 0 := fun g => g hs
   rw [if_neg hn, if_neg hn]
   cases hf : b.shop x.name with
   | none => simp
   | some y =>
    have : ¬ y = x := fun e => h (by rw [hf, e])
    simp [this]
  ·rw [if_pos hs, if_pos hs]
theorem bind_first {b : Bk} (hb : Ok b) (x : Bd) : bind b x = if x ∈ b.binds then (b, 0) else if bcode b x ≠ 0 then (b, bcode b x) else if 32 ≤ b.binds.length then (b, 12) else (⟨b.shops, b.binds ++ [x]⟩, 0) := by
 unfold bind
 by_cases h : x ∈ b.binds
 ·rw [if_pos h, if_neg (by have := hb.binds x h; omega), if_pos h]
 ·rw [if_neg h, if_neg h]
theorem shop_app {b : Bk} {x : Sh} {n : List UInt8} {s : Sh} (h : b.shop n = some s) : (⟨b.shops ++ [x], b.binds⟩ : Bk).shop n = some s := by
 unfold shop at h ⊢
 rw [List.find?_append, h]
 rfl
theorem bcode_shop {b c : Bk} {x : Bd} (h : c.shop x.shop = b.shop x.shop) : bcode c x = bcode b x := by unfold bcode; rw [h]
theorem Ok.make {b : Bk} (hb : Ok b) (x : Sh) : Ok (b.make x).1 := by
 unfold Bk.make
 by_cases hs : scode x = 0
 ·rw [if_neg (by omega)]
  cases hf : b.shop x.name with
  | some y => dsimp only; split <;> exact hb
  | none =>
   dsimp only
   by_cases h8 : 8 ≤ b.shops.length
   ·rw [if_pos h8]; exact hb
   ·rw [if_neg h8]
    refine ⟨fun y hy => ?_, ?_, ?_, fun y hy => ?_, hb.blen⟩
    ·rcases List.mem_append.1 hy with hy | hy
     ·exact hb.shops y hy
     ·rw [List.mem_singleton] at hy; rw [hy]; exact hs
    ·show (b.shops ++ [x]).length ≤ 8
     rw [List.length_append, List.length_singleton]; omega
    ·show (b.shops ++ [x]).Pairwise _
     rw [List.pairwise_append]
     refine ⟨hb.once, by simp, fun y hy z hz => ?_⟩
     rw [List.mem_singleton] at hz
     subst hz
     unfold shop at hf
     rw [List.find?_eq_none] at hf
     simpa using hf y hy
    ·have h0 := hb.binds y hy
     cases hy2 : b.shop y.shop with
     | none => unfold bcode at h0; rw [hy2] at h0; dsimp only at h0; omega
     | some s => rw [bcode_shop ((shop_app hy2).trans hy2.symm)]; exact h0
 ·rw [if_pos hs]; exact hb
theorem shop_drop {b : Bk} {n m : List UInt8} (h : m ≠ n) (l : List Bd) : (⟨b.shops.filter fun x => !(x.name == n), l⟩ : Bk).shop m = b.shop m := by
 unfold shop
 rw [List.find?_filter]
 congr 1
 funext x
 by_cases e : x.name = m
 ·simp [e, h]
 ·simp [e]
theorem Ok.drop {b : Bk} (hb : Ok b) (n : List UInt8) : Ok (b.drop n).1 := by
 unfold Bk.drop
 cases hf : b.shop n with
 | none => exact hb
 | some s =>
  refine ⟨fun y hy => hb.shops y (List.mem_filter.1 hy).1, Nat.le_trans (List.length_filter_le _ _) hb.len, hb.once.filter _, fun y hy => ?_, Nat.le_trans (List.length_filter_le _ _) hb.blen⟩
  have hm := List.mem_filter.1 hy
  have hne : y.shop ≠ n := by simpa using hm.2
  exact (bcode_shop (shop_drop hne _)).trans (hb.binds y hm.1)
theorem Ok.bind {b : Bk} (hb : Ok b) (x : Bd) : Ok (b.bind x).1 := by
 unfold Bk.bind
 by_cases hs : bcode b x = 0
 ·rw [if_neg (by omega)]
  by_cases hx : x ∈ b.binds
  ·rw [if_pos hx]; exact hb
  ·rw [if_neg hx]
   by_cases h32 : 32 ≤ b.binds.length
   ·rw [if_pos h32]; exact hb
   ·rw [if_neg h32]
    refine ⟨hb.shops, hb.len, hb.once, fun y hy => ?_, ?_⟩
    ·rcases List.mem_append.1 hy with hy | hy
     ·exact hb.binds y hy
     ·rw [List.mem_singleton] at hy; rw [hy]; exact hs
    ·show (b.binds ++ [x]).length ≤ 32
     rw [List.length_append, List.length_singleton]; omega
 ·rw [if_pos hs]; exact hb
theorem Ok.some_binds {b : Bk} (hb : Ok b) (p : Bd → Bool) : Ok ⟨b.shops, b.binds.filter p⟩ :=
 ⟨hb.shops, hb.len, hb.once, fun y hy => (bcode_shop rfl).trans (hb.binds y (List.mem_filter.1 hy).1), Nat.le_trans (List.length_filter_le _ _) hb.blen⟩
theorem Ok.unbind {b : Bk} (hb : Ok b) (x : Bd) : Ok (b.unbind x).1 := by
 unfold Bk.unbind
 split
 ·exact hb.some_binds _
 ·exact hb
theorem Ok.forget {b : Bk} (hb : Ok b) (q : List UInt8) : Ok (b.forget q) := hb.some_binds _
end Bk
end Go.Proofs.YtaikigponkjkgaaGreatDoor
end
section
namespace Go.Proofs.YtaikigponkjkgaaGreatDoor.Pt
/-! ### written, then read -/
theorem num_front {n : Nat} (hn : n < 18446744073709551616) (r : List UInt8) : Oct.val (lOut (Oct.be 8 n ++ r) 8) = n ∧ lRaw (Oct.be 8 n ++ r, 0) 8 = (r, 0) :=
 ⟨by rw [Hd.lOut_front _ _ 8 (Oct.length_be _ _), Hd.val_be_at 8 _ hn], Hd.lRaw_front _ _ _ 8 (Oct.length_be _ _)⟩
/-! ### read, then written -/
end Go.Proofs.YtaikigponkjkgaaGreatDoor.Pt
end
section
namespace Go.Proofs.YtaikigponkjkgaaGreatDoor
structure Ml where
 id : Nat
 shop : List UInt8
 key : List UInt8
 head : List Hd.Pr
 body : List UInt8
 due : Nat
 hops : Nat
deriving DecidableEq
namespace Ml
def zero : Ml := ⟨0, [], [], [], [], 0, 0⟩
def code (x : Ml) : Nat :=
 if Wrd.nameCode x.shop ≠ 0 then Wrd.nameCode x.shop else
 if Wrd.keyCode [] x.key ≠ 0 then Wrd.keyCode [] x.key else
 if Hd.hcode x.head ≠ 0 then Hd.hcode x.head else
 if 256 < x.body.length then 5 else
 if 4 < x.hops then 7 else 0
structure Fits (x : Ml) : Prop where
 id : x.id < 18446744073709551616
 due : x.due < 18446744073709551616
 hops : x.hops < 256
 head : ∀ p ∈ x.head, Hd.Fits p
theorem code_ok {x : Ml} (h : code x = 0) : Wrd.nameCode x.shop = 0 ∧ Wrd.keyCode [] x.key = 0 ∧ Hd.hcode x.head = 0 ∧ x.body.length ≤ 256 ∧ x.hops ≤ 4 := by
 unfold code at h
 by_cases h1 : Wrd.nameCode x.shop = 0
 ·rw [if_neg (by omega)] at h
  by_cases h2 : Wrd.keyCode [] x.key = 0
  ·rw [if_neg (by omega)] at h
   by_cases h3 : Hd.hcode x.head = 0
   ·rw [if_neg (by omega)] at h
    by_cases h4 : 256 < x.body.length
    ·rw [if_pos h4] at h; omega
    ·rw [if_neg h4] at h
     by_cases h5 : 4 < x.hops
     ·rw [if_pos h5] at h; omega
     ·exact ⟨h1, h2, h3, by omega, by omega⟩
   ·rw [if_pos h3] at h; exact absurd h h3
  ·rw [if_pos h2] at h; exact absurd h h2
 ·rw [if_pos h1] at h; exact absurd h h1
def enc (x : Ml) : List UInt8 := Oct.be 8 x.id ++ (Oct.text x.shop ++ (Oct.text x.key ++ (Hd.henc x.head ++ (Oct.text x.body ++ (Oct.be 8 x.due ++ Oct.be 1 x.hops)))))
def s1 (s : LSt) : LSt := lRaw s 8
def s2 (s : LSt) : LSt := lText (s1 s) 16
def s3 (s : LSt) : LSt := lText (s2 s) 64
def s4 (s : LSt) : LSt := (Hd.hread (s3 s)).2
def s5 (s : LSt) : LSt := lText (s4 s) 256
def s6 (s : LSt) : LSt := lRaw (s5 s) 8
def s7 (s : LSt) : LSt := lRaw (s6 s) 1
def got (s : LSt) : Ml := ⟨Oct.val (lOut s.1 8), lTextOut (s1 s) 16, lTextOut (s2 s) 64, (Hd.hread (s3 s)).1, lTextOut (s4 s) 256, Oct.val (lOut (s5 s).1 8), Oct.val (lOut (s6 s).1 1)⟩
def fin (s : LSt) : LSt := lFail (s7 s) (code (got s))
def rd (s : LSt) : Ml × LSt := (if (fin s).2 ≠ 0 then zero else got s, fin s)

theorem key_len {bs : List (List UInt8)} {l : List UInt8} (h : Wrd.keyCode bs l = 0) : l.length ≤ 64 := by
 unfold Wrd.keyCode at h
 by_cases h1 : 64 < l.length
 ·rw [if_pos h1] at h; omega
 ·omega
theorem ok1 {s : LSt} (h : lOk s) : lOk (s1 s) := lOk_raw h _
theorem ok2 {s : LSt} (h : lOk s) : lOk (s2 s) := lOk_text (ok1 h) _
theorem ok3 {s : LSt} (h : lOk s) : lOk (s3 s) := lOk_text (ok2 h) _
theorem ok4 {s : LSt} (h : lOk s) : lOk (s4 s) := Hd.lOk_hread (ok3 h)
theorem ok5 {s : LSt} (h : lOk s) : lOk (s5 s) := lOk_text (ok4 h) _
theorem ok6 {s : LSt} (h : lOk s) : lOk (s6 s) := lOk_raw (ok5 h) _
theorem ok7 {s : LSt} (h : lOk s) : lOk (s7 s) := lOk_raw (ok6 h) _
theorem okF {s : LSt} (h : lOk s) : lOk (fin s) := lOk_fail (ok7 h) _
theorem val8 (r : List UInt8) : Oct.val (lOut r 8) < 18446744073709551616 := Nat.lt_of_lt_of_le (val_out_lt r 8) (by decide)
theorem val1 (r : List UInt8) : Oct.val (lOut r 1) < 256 := Nat.lt_of_lt_of_le (val_out_lt r 1) (by decide)
theorem fits_of (a : Nat) (b c : List UInt8) (d : List Hd.Pr) (e : List UInt8) (f g : Nat) (ha : a < 18446744073709551616) (hf : f < 18446744073709551616) (hg : g < 256) (hd : ∀ p ∈ d, Hd.Fits p) : Fits ⟨a, b, c, d, e, f, g⟩ := ⟨ha, hf, hg, hd⟩
theorem got_fits (s : LSt) : Fits (got s) := fits_of _ _ _ _ _ _ _ (val8 _) (val8 _) (val1 _) (Hd.hread_fits _)
theorem rd_enc {x : Ml} (hf : Fits x) (h : code x = 0) (r : List UInt8) : rd (enc x ++ r, 0) = (x, (r, 0)) := by
 obtain ⟨c1, c2, c3, c4, c5⟩ := code_ok h
 have e : enc x ++ r = Oct.be 8 x.id ++ (Oct.text x.shop ++ (Oct.text x.key ++ (Hd.henc x.head ++ (Oct.text x.body ++ (Oct.be 8 x.due ++ (Oct.be 1 x.hops ++ r)))))) := by unfold enc; simp [List.append_assoc]
 have t1 := Pt.num_front hf.id (Oct.text x.shop ++ (Oct.text x.key ++ (Hd.henc x.head ++ (Oct.text x.body ++ (Oct.be 8 x.due ++ (Oct.be 1 x.hops ++ r))))))
 have t2 := Hd.text_front x.shop (Oct.text x.key ++ (Hd.henc x.head ++ (Oct.text x.body ++ (Oct.be 8 x.due ++ (Oct.be 1 x.hops ++ r))))) 16 (Hd.name_ok_len c1).1 (by decide)
 have t3 := Hd.text_front x.key (Hd.henc x.head ++ (Oct.text x.body ++ (Oct.be 8 x.due ++ (Oct.be 1 x.hops ++ r)))) 64 (key_len c2) (by decide)
 have t4 := Hd.hread_henc hf.head c3 (Oct.text x.body ++ (Oct.be 8 x.due ++ (Oct.be 1 x.hops ++ r)))
 have t5 := Hd.text_front x.body (Oct.be 8 x.due ++ (Oct.be 1 x.hops ++ r)) 256 c4 (by decide)
 have t6 := Pt.num_front hf.due (Oct.be 1 x.hops ++ r)
 have v7 : Oct.val (lOut (Oct.be 1 x.hops ++ r) 1) = x.hops := by
  rw [Hd.lOut_front _ _ 1 (Oct.length_be _ _), Hd.val_be_at 1 _ (by show x.hops < 256; exact hf.hops)]
 have l7 : lRaw (Oct.be 1 x.hops ++ r, 0) 1 = (r, 0) := Hd.lRaw_front _ _ _ 1 (Oct.length_be _ _)
 rw [show ((16 : Nat) : Int) = 16 from rfl] at t2
 rw [show ((64 : Nat) : Int) = 64 from rfl] at t3
 rw [show ((256 : Nat) : Int) = 256 from rfl] at t5
 have e1 : s1 (enc x ++ r, 0) = ((Oct.text x.shop ++ (Oct.text x.key ++ (Hd.henc x.head ++ (Oct.text x.body ++ (Oct.be 8 x.due ++ (Oct.be 1 x.hops ++ r)))))), 0) := by unfold s1; rw [e]; exact t1.2
 have e2 : s2 (enc x ++ r, 0) = ((Oct.text x.key ++ (Hd.henc x.head ++ (Oct.text x.body ++ (Oct.be 8 x.due ++ (Oct.be 1 x.hops ++ r))))), 0) := by unfold s2; rw [e1]; exact t2.2
 have e3 : s3 (enc x ++ r, 0) = ((Hd.henc x.head ++ (Oct.text x.body ++ (Oct.be 8 x.due ++ (Oct.be 1 x.hops ++ r)))), 0) := by unfold s3; rw [e2]; exact t3.2
 have e4 : s4 (enc x ++ r, 0) = (Oct.text x.body ++ (Oct.be 8 x.due ++ (Oct.be 1 x.hops ++ r)), 0) := by unfold s4; rw [e3, t4]
 have e5 : s5 (enc x ++ r, 0) = ((Oct.be 8 x.due ++ (Oct.be 1 x.hops ++ r)), 0) := by unfold s5; rw [e4]; exact t5.2
 have e6 : s6 (enc x ++ r, 0) = ((Oct.be 1 x.hops ++ r), 0) := by unfold s6; rw [e5]; exact t6.2
 have e7 : s7 (enc x ++ r, 0) = (r, 0) := by unfold s7; rw [e6]; exact l7
 have g : got (enc x ++ r, 0) = x := by
  unfold got
  rw [e1, e2, e3, e4, e5, e6]
  simp only
  rw [e, t1.1, t2.1, t3.1, t4, t5.1, t6.1, v7]
 have f : fin (enc x ++ r, 0) = (r, 0) := by
  unfold fin
  rw [g, e7, h]
  exact Hd.lFail_ok _
 unfold rd
 rw [f, g]
 simp
end Ml
end Go.Proofs.YtaikigponkjkgaaGreatDoor
end
section
namespace Go.Proofs.YtaikigponkjkgaaGreatDoor
structure Qu where
 name : List UInt8
 most : Nat
 life : Nat
 dead : List UInt8
deriving DecidableEq
structure De where
 kd : Nat
 tick : Nat
 shop : Sh
 q : Qu
 bind : Bd
 name : List UInt8
 id : Nat
 how : Nat
 frm : Nat
 cd : Nat
 num : Nat
 mail : Ml
 text : List UInt8
deriving DecidableEq
namespace De
def Qu0 : Qu := ⟨[], 0, 0, []⟩
def zero : De := ⟨0, 0, Bk.Sh0, Qu0, Bk.Bd0, [], 0, 0, 0, 0, 0, Ml.zero, []⟩
def of (k t : Nat) : De := ⟨k, t, Bk.Sh0, Qu0, Bk.Bd0, [], 0, 0, 0, 0, 0, Ml.zero, []⟩
def names (k : Nat) : Bool := k == 1 || k == 3 || k == 7 || k == 8
def told (x : De) : De :=
 if x.kd = 0 then { of x.kd x.tick with shop := x.shop } else
 if x.kd = 2 then { of x.kd x.tick with q := x.q } else
 if x.kd = 4 ∨ x.kd = 5 then { of x.kd x.tick with bind := x.bind } else
 if x.kd = 1 ∨ x.kd = 3 ∨ x.kd = 7 then { of x.kd x.tick with name := x.name } else
 if x.kd = 6 then { of x.kd x.tick with mail := x.mail } else
 if x.kd = 8 then { of x.kd x.tick with name := x.name, id := x.id, how := x.how } else
 if x.kd = 10 then { of x.kd x.tick with frm := x.frm, num := x.num, mail := x.mail } else
 if x.kd = 12 then { of x.kd x.tick with cd := x.cd, text := x.text } else of x.kd x.tick
def maybe (s : List UInt8) : Nat := if s = [] then 0 else Wrd.nameCode s
def shc (x : Sh) : Nat := if Wrd.nameCode x.name ≠ 0 then Wrd.nameCode x.name else if 4 < x.sort then 8 else maybe x.to
def quc (x : Qu) : Nat := if Wrd.nameCode x.name ≠ 0 then Wrd.nameCode x.name else maybe x.dead
def bdc (x : Bd) : Nat := if Wrd.nameCode x.shop ≠ 0 then Wrd.nameCode x.shop else if Wrd.nameCode x.to ≠ 0 then Wrd.nameCode x.to else if 64 < x.key.length then 5 else Hd.hcode x.want
def stc (x : De) : Nat := if Wrd.nameCode x.name ≠ 0 then Wrd.nameCode x.name else if 2 < x.how then 7 else 0
def body (x : De) : Nat :=
 if x.kd = 0 then shc x.shop else
 if x.kd = 2 then quc x.q else
 if x.kd = 4 ∨ x.kd = 5 then bdc x.bind else
 if x.kd = 1 ∨ x.kd = 3 ∨ x.kd = 7 then Wrd.nameCode x.name else
 if x.kd = 6 ∨ x.kd = 10 then x.mail.code else
 if x.kd = 8 then stc x else
 if x.kd = 12 then (if 64 < x.text.length then 5 else 0) else 0
def code (x : De) : Nat := if 12 < x.kd then 8 else if x ≠ x.told then 4 else body x
structure Fits (x : De) : Prop where
 kd : x.kd < 256
 tick : x.tick < 18446744073709551616
 sort : x.shop.sort < 256
 most : x.q.most < 18446744073709551616
 life : x.q.life < 18446744073709551616
 want : ∀ p ∈ x.bind.want, Hd.Fits p
 id : x.id < 18446744073709551616
 how : x.how < 256
 frm : x.frm < 256
 cd : x.cd < 256
 num : x.num < 18446744073709551616
 mail : Ml.Fits x.mail
end De
end Go.Proofs.YtaikigponkjkgaaGreatDoor
end
section
namespace Go.Proofs.YtaikigponkjkgaaGreatDoor.Rw
open Go.ChangeShapes Go.WideShapes Go.ChangeAt Go.RowKit
theorem gb {W W' : World} (h : Below W.heap.size W W') (row : Option Nat) : W.grownBy W' row := ⟨h.os, h.tape, h.output, h.size, fun k hk _ => h.block k hk⟩
theorem flat_get {α : Type} (f : α → List Value) (c : Nat) (hf : ∀ x, (f x).length = c) (hc : 0 < c) : ∀ (l : List α) (i t : Nat) (h : i < l.length), t < c → (l.flatMap f)[i * c + t]? = (f l[i])[t]?
 | [], i, t, h, _ => by simp at h
 | x :: l, 0, t, h, ht => by
  rw [List.flatMap_cons, List.getElem?_append_left (by rw [hf]; omega)]
  simp
 | x :: l, i + 1, t, h, ht => by
  have ih := flat_get f c hf hc l i t (by simpa using h) ht
  rw [List.flatMap_cons, List.getElem?_append_right (by rw [hf, Nat.succ_mul]; omega), hf]
  rw [show (i + 1) * c + t - c = i * c + t by rw [Nat.succ_mul]; omega, ih]
  rfl
theorem flat_len {α : Type} (f : α → List Value) (c : Nat) (hf : ∀ x, (f x).length = c) (l : List α) : (l.flatMap f).length = l.length * c := by
 induction l with
 | nil => simp
 | cons x l ih => rw [List.flatMap_cons, List.length_append, hf, ih, List.length_cons, Nat.succ_mul]; omega
theorem own_cells {w : World} {B e size : Nat} {v : Value} {n : Nat} {xs : List Value} (h : w.ownsRow B e size v n xs) :
  ∃ A c, v = .slice A n c ∧ n ≤ c ∧ (∀ a, A = some a → v.ownBlock = some a.block) ∧ (0 < n → ∃ g, A = some ⟨g, 0, none⟩ ∧ g < w.heap.size ∧ ∀ j, j < n * size → w.cell? ⟨g, j, none⟩ = xs[j]?) := by
 obtain ⟨hl, h1 | ⟨g, cap, cur, rfl, hB, hb, h2⟩⟩ := h
 ·obtain ⟨rfl, rfl⟩ := h1
  exact ⟨none, 0, rfl, Nat.le_refl _, (fun a h => by cases h), fun h => absurd h (by omega)⟩
 ·refine ⟨_, cap, rfl, h2.1, (fun a h => by cases h; rfl), fun _ => ⟨g, rfl, (Array.getElem?_eq_some_iff.1 hb).1, fun j hj => ?_⟩⟩
  exact World.ownsRow.cellAt ⟨hl, Or.inr ⟨g, cap, cur, rfl, hB, hb, h2⟩⟩ j hj
theorem own_ne {W : World} {B e size n k : Nat} {v : Value} {xs : List Value} (h : W.ownsRow B e size v n xs) (hk : k < B) : v.ownBlock = none ∨ v.ownBlock ≠ some k := by
 right
 intro e
 have := (h.lt k e).1
 omega
theorem own_row {W : World} {B e size n k : Nat} {v : Value} {xs : List Value} (h : W.ownsRow B e size v n xs) (hk : k < B) : v.ownBlock ≠ some k := by
 intro e
 have := (h.lt k e).1
 omega
theorem own_on {w w' : World} {B e size : Nat} {v : Value} {n : Nat} {xs : List Value} (h : w.ownsRow B e size v n xs) (hb : Below w.heap.size w w') : w'.ownsRow B e size v n xs :=
 h.kept (gb hb (some w.heap.size)) (.inr fun e => by have := (h.lt _ e).2; omega)
end Go.Proofs.YtaikigponkjkgaaGreatDoor.Rw
end
section
namespace Go.Proofs.YtaikigponkjkgaaGreatDoor
open Go.ChangeShapes Go.WideShapes Go.ChangeAt Go.RowKit
theorem alloc1B (w : World) (o : Obj) : Below w.heap.size w (w.alloc o) := (Below.refl _ _).alloc (Nat.le_refl _) _
structure Rws (w : World) (A : Option Addr) (cs : List Value) : Prop where
 at_ : ∀ j v, cs[j]? = some v → ∃ b off, A = some ⟨b, off, none⟩ ∧ b < w.heap.size ∧ w.cell? ⟨b, off + j, none⟩ = some v
theorem Rws.on {w w' : World} {A : Option Addr} {cs : List Value} (h : Rws w A cs) (hb : Below w.heap.size w w') : Rws w' A cs := ⟨fun j v hv => by
 obtain ⟨b, off, hA, hlt, hc⟩ := h.at_ j v hv
 exact ⟨b, off, hA, Nat.lt_of_lt_of_le hlt hb.size, (hb.cell (p := ⟨b, off + j, none⟩) hlt).trans hc⟩⟩
theorem Rws.far {w w' : World} {A : Option Addr} {cs : List Value} {B : Nat} (h : Rws w A cs) (hb : Below B w w') (hB : ∀ a, A = some a → a.block < B) : Rws w' A cs := ⟨fun j v hv => by
 obtain ⟨b, off, rfl, hlt, hc⟩ := h.at_ j v hv
 exact ⟨b, off, rfl, Nat.lt_of_lt_of_le hlt hb.size, (hb.cell (p := ⟨b, off + j, none⟩) (hB ⟨b, off, none⟩ rfl)).trans hc⟩⟩
theorem Rws.nil (w : World) (A : Option Addr) : Rws w A [] := ⟨fun j v hv => by simp at hv⟩
theorem Rws.no {w : World} {cs : List Value} (h : Rws w none cs) : cs = [] := by
 cases cs with
 | nil => rfl
 | cons x t => obtain ⟨b, off, e, _⟩ := h.at_ 0 x rfl; cases e
theorem Rws.lies {w : World} {A : Option Addr} {cs : List Value} (h : Rws w A cs) (hp : 0 < cs.length) : ∃ b off, A = some ⟨b, off, none⟩ ∧ b < w.heap.size ∧ ∀ j v, cs[j]? = some v → w.cell? ⟨b, off + j, none⟩ = some v := by
 obtain ⟨b, off, e, hlt, -⟩ := h.at_ 0 _ (List.getElem?_eq_getElem hp)
 refine ⟨b, off, e, hlt, fun j v hv => ?_⟩
 obtain ⟨b', off', e', -, hc⟩ := h.at_ j v hv
 rw [e] at e'
 cases e'
 exact hc
theorem Rws.drop {w : World} {b off k : Nat} {cs : List Value} (h : Rws w (some ⟨b, off, none⟩) cs) : Rws w (some ⟨b, off + k, none⟩) (cs.drop k) := ⟨fun j v hv => by
 rw [List.getElem?_drop] at hv
 obtain ⟨b', off', e, hlt, hc⟩ := h.at_ (k + j) v hv
 cases e
 exact ⟨b, off + k, rfl, hlt, by rw [Nat.add_assoc]; exact hc⟩⟩
theorem Rws.of_own {w : World} {B e sz n : Nat} {v : Value} {xs : List Value} (h : w.ownsRow B e sz v n xs) : ∃ A c, v = .slice A n c ∧ n ≤ c ∧ (A = none → c = 0) ∧ Rws w A xs ∧ ∀ a, A = some a → B ≤ a.block ∧ a.block < w.heap.size := by
 have hl := h.1
 obtain ⟨A, c, rfl, hc, ho, hx⟩ := Rw.own_cells h
 refine ⟨A, c, rfl, hc, ?_, ⟨fun j u hj => ?_⟩, fun a ha => h.lt _ (ho a ha)⟩
 ·rintro rfl
  rcases h.2 with ⟨e1, _⟩ | ⟨g, cap, cur, e1, _⟩
  ·exact (Value.slice.inj e1).2.2
  ·exact absurd (Value.slice.inj e1).1 (by simp)
 ·have hj2 : j < n * sz := by rw [← hl]; exact (List.getElem?_eq_some_iff.1 hj).1
  have hn : 0 < n := by
   rcases Nat.eq_zero_or_pos n with h0 | h0
   ·rw [h0, Nat.zero_mul] at hj2; omega
   ·exact h0
  obtain ⟨g, rfl, hg, hcell⟩ := hx hn
  exact ⟨g, 0, rfl, hg, by rw [Nat.zero_add, hcell j hj2]; exact hj⟩
theorem rws_add (b off j : Nat) : (⟨b, off, none⟩ : Addr).add j = ⟨b, off + j, none⟩ := by
 unfold Addr.add
 split
 ·rename_i h0
  have : j = 0 := by simpa using h0
  rw [this]; rfl
 ·rfl
theorem Rws.of_news {w : World} {b off : Nat} {cs : List Value} (h : ∀ j u, cs[j]? = some u → w.cell? ⟨b, off + j, none⟩ = some u) : Rws w (some ⟨b, off, none⟩) cs := ⟨fun j u hu =>
 ⟨b, off, rfl, World.block_lt_of_cell? w _ (h j u hu), h j u hu⟩⟩
theorem wpList_append_rws {P : Program} (w : World) {ops : Array Oper} {rest : List Oper} {o : Oper} {a : Act} {Q : Exit → Act → World → Prop} (hgd : o.guard = none) (s x : Operand) (t : TypeId)
  (ho : o.op = .call { callee := .builtin .append, args := #[s, x], argTypes := #[t, t] })
  (base : Nat) (E : TypeId) (i : TypeInfo) (z : Value) (sz by_ : Nat) (ht : P.underlying t = some (.slice E)) (hi : P.info? E = some i) (hz : i.zero = some z)
  (hsize : i.size = sz) (hby : i.bytes = by_) (hzs : z.cells.size = sz) (h0 : 0 < sz) (hsmall : by_ ≤ 1000) {v : Value} {m : Nat} {xs : List Value} (hs : a.eval s = v) (hown : w.ownsRow base E sz v m xs)
  {A : Option Addr} {n c : Nat} {cs : List Value} (hx : a.eval x = .slice A n c) (hl : Rws w A cs) (hlen : cs.length = n * sz) (hone : ∀ u ∈ cs, u.oneCell' = true) (hn : m + n ≤ 100000) (hnil : A = none → c = 0) (hbase : base ≤ w.heap.size)
  (h : ∀ v' w', w'.ownsRow base E sz v' (m + n) (xs ++ cs) → w.grownBy w' v.ownBlock → wpList P ops Q rest (a.put o.dst v') w') : wpList P ops Q (o :: rest) a w := by
 cases A with
 | none =>
  have e := hl.no
  subst e
  have hn0 : n = 0 := by
   rcases Nat.eq_zero_or_pos n with h1 | h1
   ·exact h1
   ·have := Nat.mul_pos h1 h0
    simp at hlen; omega
  subst hn0
  have ec := hnil rfl
  subst ec
  refine wpList_append_own_none hgd s x t ho base E i sz ht hi v m xs hs hown hx (h _ _ ?_ (World.grownBy.refl _ _))
  rw [List.append_nil]
  exact hown
 | some ad =>
  have hb1 : (m + n) * by_ ≤ 100000 * 1000 := Nat.mul_le_mul hn hsmall
  refine wpList_append_own w hgd s x t ho base E i z sz by_ ht hi hz hsize hby hzs h0 v m xs hs hown ad n c cs hx hlen ?_ hone (by unfold maxLen; omega) (by omega) hbase ?_
  ·intro j u hu
   obtain ⟨b, off, e, -, hc⟩ := hl.at_ j u hu
   cases e
   rw [rws_add]
   exact hc
  ·intro v' w' h1 h2 _
   exact h v' w' h1 h2
end Go.Proofs.YtaikigponkjkgaaGreatDoor
end
