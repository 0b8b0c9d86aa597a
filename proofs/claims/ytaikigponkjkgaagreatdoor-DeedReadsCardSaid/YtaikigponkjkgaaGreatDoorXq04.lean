/-
 A part of the proof.
-/
import Derived.Test.YtaikigponkjkgaaGreatDoorXq03
import Derived.WalkKit
import Derived.ProofKit
import Derived.OpenShut
import Derived.Below
import Derived.Laws.AppendOwn
import Derived.Deep.AppendLies
import Derived.Deep.LoopGhost
import Derived.Laws.AppendOwnNone
import Derived.ArgAppend
import Derived.Lib.Walk
import Derived.Lib.SliceRun
import Derived.Lib.AppendZerosOnto
import Derived.WalkMore
section
namespace Go.Proofs.YtaikigponkjkgaaGreatDoor.Pt
/-! ### written, then read -/
theorem num_front {n : Nat} (hn : n < 18446744073709551616) (r : List UInt8) : Oct.val (lOut (Oct.be 8 n ++ r) 8) = n ∧ lRaw (Oct.be 8 n ++ r, 0) 8 = (r, 0) :=
 ⟨by rw [Hd.lOut_front _ _ 8 (Oct.length_be _ _), Hd.val_be_at 8 _ hn], Hd.lRaw_front _ _ _ 8 (Oct.length_be _ _)⟩
/-! ### read, then written -/
theorem rds_stop {n : Nat} {h : List Hd.Pr} {s : LSt} (hb : (lFail (Hd.rd1 s).2 (Hd.pcode (Hd.rd1 s).1 h)).2 ≠ 0) : Hd.rds (n + 1) h s = ([], lFail (Hd.rd1 s).2 (Hd.pcode (Hd.rd1 s).1 h)) := by rw [Hd.rds, if_pos hb]
end Go.Proofs.YtaikigponkjkgaaGreatDoor.Pt
end
section
namespace Go.Proofs.YtaikigponkjkgaaGreatDoor
structure Ml where
 id : Nat
 shop : List UInt8
 key : List UInt8
 head : List Hd.Pr
 body : List UInt8
 due : Nat
 hops : Nat
deriving DecidableEq
namespace Ml
def zero : Ml := ⟨0, [], [], [], [], 0, 0⟩
def code (x : Ml) : Nat :=
 if Wrd.nameCode x.shop ≠ 0 then Wrd.nameCode x.shop else
 if Wrd.keyCode [] x.key ≠ 0 then Wrd.keyCode [] x.key else
 if Hd.hcode x.head ≠ 0 then Hd.hcode x.head else
 if 256 < x.body.length then 5 else
 if 4 < x.hops then 7 else 0
structure Fits (x : Ml) : Prop where
 id : x.id < 18446744073709551616
 due : x.due < 18446744073709551616
 hops : x.hops < 256
 head : ∀ p ∈ x.head, Hd.Fits p
theorem code_ok {x : Ml} (h : code x = 0) : Wrd.nameCode x.shop = 0 ∧ Wrd.keyCode [] x.key = 0 ∧ Hd.hcode x.head = 0 ∧ x.body.length ≤ 256 ∧ x.hops ≤ 4 := by
 unfold code at h
 by_cases h1 : Wrd.nameCode x.shop = 0
 ·rw [if_neg (by omega)] at h
  by_cases h2 : Wrd.keyCode [] x.key = 0
  ·rw [if_neg (by omega)] at h
   by_cases h3 : Hd.hcode x.head = 0
   ·rw [if_neg (by omega)] at h
    by_cases h4 : 256 < x.body.length
    ·rw [if_pos h4] at h; omega
    ·rw [if_neg h4] at h
     by_cases h5 : 4 < x.hops
     ·rw [if_pos h5] at h; omega
     ·exact ⟨h1, h2, h3, by omega, by omega⟩
   ·rw [if_pos h3] at h; exact absurd h h3
  ·rw [if_pos h2] at h; exact absurd h h2
 ·rw [if_pos h1] at h; exact absurd h h1
def enc (x : Ml) : List UInt8 := Oct.be 8 x.id ++ (Oct.text x.shop ++ (Oct.text x.key ++ (Hd.henc x.head ++ (Oct.text x.body ++ (Oct.be 8 x.due ++ Oct.be 1 x.hops)))))
def s1 (s : LSt) : LSt := lRaw s 8
def s2 (s : LSt) : LSt := lText (s1 s) 16
def s3 (s : LSt) : LSt := lText (s2 s) 64
def s4 (s : LSt) : LSt := (Hd.hread (s3 s)).2
def s5 (s : LSt) : LSt := lText (s4 s) 256
def s6 (s : LSt) : LSt := lRaw (s5 s) 8
def s7 (s : LSt) : LSt := lRaw (s6 s) 1
def got (s : LSt) : Ml := ⟨Oct.val (lOut s.1 8), lTextOut (s1 s) 16, lTextOut (s2 s) 64, (Hd.hread (s3 s)).1, lTextOut (s4 s) 256, Oct.val (lOut (s5 s).1 8), Oct.val (lOut (s6 s).1 1)⟩
def fin (s : LSt) : LSt := lFail (s7 s) (code (got s))
def rd (s : LSt) : Ml × LSt := (if (fin s).2 ≠ 0 then zero else got s, fin s)

theorem key_len {bs : List (List UInt8)} {l : List UInt8} (h : Wrd.keyCode bs l = 0) : l.length ≤ 64 := by
 unfold Wrd.keyCode at h
 by_cases h1 : 64 < l.length
 ·rw [if_pos h1] at h; omega
 ·omega
theorem ok1 {s : LSt} (h : lOk s) : lOk (s1 s) := lOk_raw h _
theorem ok2 {s : LSt} (h : lOk s) : lOk (s2 s) := lOk_text (ok1 h) _
theorem ok3 {s : LSt} (h : lOk s) : lOk (s3 s) := lOk_text (ok2 h) _
theorem ok4 {s : LSt} (h : lOk s) : lOk (s4 s) := Hd.lOk_hread (ok3 h)
theorem ok5 {s : LSt} (h : lOk s) : lOk (s5 s) := lOk_text (ok4 h) _
theorem ok6 {s : LSt} (h : lOk s) : lOk (s6 s) := lOk_raw (ok5 h) _
theorem ok7 {s : LSt} (h : lOk s) : lOk (s7 s) := lOk_raw (ok6 h) _
theorem okF {s : LSt} (h : lOk s) : lOk (fin s) := lOk_fail (ok7 h) _
theorem val8 (r : List UInt8) : Oct.val (lOut r 8) < 18446744073709551616 := Nat.lt_of_lt_of_le (val_out_lt r 8) (by decide)
theorem val1 (r : List UInt8) : Oct.val (lOut r 1) < 256 := Nat.lt_of_lt_of_le (val_out_lt r 1) (by decide)
theorem fits_of (a : Nat) (b c : List UInt8) (d : List Hd.Pr) (e : List UInt8) (f g : Nat) (ha : a < 18446744073709551616) (hf : f < 18446744073709551616) (hg : g < 256) (hd : ∀ p ∈ d, Hd.Fits p) : Fits ⟨a, b, c, d, e, f, g⟩ := ⟨ha, hf, hg, hd⟩
theorem got_fits (s : LSt) : Fits (got s) := fits_of _ _ _ _ _ _ _ (val8 _) (val8 _) (val1 _) (Hd.hread_fits _)
end Ml
end Go.Proofs.YtaikigponkjkgaaGreatDoor
end
section
namespace Go.Proofs.YtaikigponkjkgaaGreatDoor
structure Qu where
 name : List UInt8
 most : Nat
 life : Nat
 dead : List UInt8
deriving DecidableEq
structure De where
 kd : Nat
 tick : Nat
 shop : Sh
 q : Qu
 bind : Bd
 name : List UInt8
 id : Nat
 how : Nat
 frm : Nat
 cd : Nat
 num : Nat
 mail : Ml
 text : List UInt8
deriving DecidableEq
namespace De
def Qu0 : Qu := ⟨[], 0, 0, []⟩
def zero : De := ⟨0, 0, Bk.Sh0, Qu0, Bk.Bd0, [], 0, 0, 0, 0, 0, Ml.zero, []⟩
def of (k t : Nat) : De := ⟨k, t, Bk.Sh0, Qu0, Bk.Bd0, [], 0, 0, 0, 0, 0, Ml.zero, []⟩
def names (k : Nat) : Bool := k == 1 || k == 3 || k == 7 || k == 8
def told (x : De) : De :=
 if x.kd = 0 then { of x.kd x.tick with shop := x.shop } else
 if x.kd = 2 then { of x.kd x.tick with q := x.q } else
 if x.kd = 4 ∨ x.kd = 5 then { of x.kd x.tick with bind := x.bind } else
 if x.kd = 1 ∨ x.kd = 3 ∨ x.kd = 7 then { of x.kd x.tick with name := x.name } else
 if x.kd = 6 then { of x.kd x.tick with mail := x.mail } else
 if x.kd = 8 then { of x.kd x.tick with name := x.name, id := x.id, how := x.how } else
 if x.kd = 10 then { of x.kd x.tick with frm := x.frm, num := x.num, mail := x.mail } else
 if x.kd = 12 then { of x.kd x.tick with cd := x.cd, text := x.text } else of x.kd x.tick
def maybe (s : List UInt8) : Nat := if s = [] then 0 else Wrd.nameCode s
def shc (x : Sh) : Nat := if Wrd.nameCode x.name ≠ 0 then Wrd.nameCode x.name else if 4 < x.sort then 8 else maybe x.to
def quc (x : Qu) : Nat := if Wrd.nameCode x.name ≠ 0 then Wrd.nameCode x.name else maybe x.dead
def bdc (x : Bd) : Nat := if Wrd.nameCode x.shop ≠ 0 then Wrd.nameCode x.shop else if Wrd.nameCode x.to ≠ 0 then Wrd.nameCode x.to else if 64 < x.key.length then 5 else Hd.hcode x.want
def stc (x : De) : Nat := if Wrd.nameCode x.name ≠ 0 then Wrd.nameCode x.name else if 2 < x.how then 7 else 0
def body (x : De) : Nat :=
 if x.kd = 0 then shc x.shop else
 if x.kd = 2 then quc x.q else
 if x.kd = 4 ∨ x.kd = 5 then bdc x.bind else
 if x.kd = 1 ∨ x.kd = 3 ∨ x.kd = 7 then Wrd.nameCode x.name else
 if x.kd = 6 ∨ x.kd = 10 then x.mail.code else
 if x.kd = 8 then stc x else
 if x.kd = 12 then (if 64 < x.text.length then 5 else 0) else 0
def code (x : De) : Nat := if 12 < x.kd then 8 else if x ≠ x.told then 4 else body x
structure Fits (x : De) : Prop where
 kd : x.kd < 256
 tick : x.tick < 18446744073709551616
 sort : x.shop.sort < 256
 most : x.q.most < 18446744073709551616
 life : x.q.life < 18446744073709551616
 want : ∀ p ∈ x.bind.want, Hd.Fits p
 id : x.id < 18446744073709551616
 how : x.how < 256
 frm : x.frm < 256
 cd : x.cd < 256
 num : x.num < 18446744073709551616
 mail : Ml.Fits x.mail
end De
end Go.Proofs.YtaikigponkjkgaaGreatDoor
end
section
namespace Go.Proofs.YtaikigponkjkgaaGreatDoor.Rw
open Go.ChangeShapes Go.WideShapes Go.ChangeAt Go.RowKit
theorem gb {W W' : World} (h : Below W.heap.size W W') (row : Option Nat) : W.grownBy W' row := ⟨h.os, h.tape, h.output, h.size, fun k hk _ => h.block k hk⟩
theorem flat_get {α : Type} (f : α → List Value) (c : Nat) (hf : ∀ x, (f x).length = c) (hc : 0 < c) : ∀ (l : List α) (i t : Nat) (h : i < l.length), t < c → (l.flatMap f)[i * c + t]? = (f l[i])[t]?
 | [], i, t, h, _ => by simp at h
 | x :: l, 0, t, h, ht => by
  rw [List.flatMap_cons, List.getElem?_append_left (by rw [hf]; omega)]
  simp
 | x :: l, i + 1, t, h, ht => by
  have ih := flat_get f c hf hc l i t (by simpa using h) ht
  rw [List.flatMap_cons, List.getElem?_append_right (by rw [hf, Nat.succ_mul]; omega), hf]
  rw [show (i + 1) * c + t - c = i * c + t by rw [Nat.succ_mul]; omega, ih]
  rfl
theorem flat_len {α : Type} (f : α → List Value) (c : Nat) (hf : ∀ x, (f x).length = c) (l : List α) : (l.flatMap f).length = l.length * c := by
 induction l with
 | nil => simp
 | cons x l ih => rw [List.flatMap_cons, List.length_append, hf, ih, List.length_cons, Nat.succ_mul]; omega
theorem own_cells {w : World} {B e size : Nat} {v : Value} {n : Nat} {xs : List Value} (h : w.ownsRow B e size v n xs) :
  ∃ A c, v = .slice A n c ∧ n ≤ c ∧ (∀ a, A = some a → v.ownBlock = some a.block) ∧ (0 < n → ∃ g, A = some ⟨g, 0, none⟩ ∧ g < w.heap.size ∧ ∀ j, j < n * size → w.cell? ⟨g, j, none⟩ = xs[j]?) := by
 obtain ⟨hl, h1 | ⟨g, cap, cur, rfl, hB, hb, h2⟩⟩ := h
 ·obtain ⟨rfl, rfl⟩ := h1
  exact ⟨none, 0, rfl, Nat.le_refl _, (fun a h => by cases h), fun h => absurd h (by omega)⟩
 ·refine ⟨_, cap, rfl, h2.1, (fun a h => by cases h; rfl), fun _ => ⟨g, rfl, (Array.getElem?_eq_some_iff.1 hb).1, fun j hj => ?_⟩⟩
  exact World.ownsRow.cellAt ⟨hl, Or.inr ⟨g, cap, cur, rfl, hB, hb, h2⟩⟩ j hj
theorem own_ne {W : World} {B e size n k : Nat} {v : Value} {xs : List Value} (h : W.ownsRow B e size v n xs) (hk : k < B) : v.ownBlock = none ∨ v.ownBlock ≠ some k := by
 right
 intro e
 have := (h.lt k e).1
 omega
theorem own_row {W : World} {B e size n k : Nat} {v : Value} {xs : List Value} (h : W.ownsRow B e size v n xs) (hk : k < B) : v.ownBlock ≠ some k := by
 intro e
 have := (h.lt k e).1
 omega
theorem own_on {w w' : World} {B e size : Nat} {v : Value} {n : Nat} {xs : List Value} (h : w.ownsRow B e size v n xs) (hb : Below w.heap.size w w') : w'.ownsRow B e size v n xs :=
 h.kept (gb hb (some w.heap.size)) (.inr fun e => by have := (h.lt _ e).2; omega)
end Go.Proofs.YtaikigponkjkgaaGreatDoor.Rw
end
section
namespace Go.Proofs.YtaikigponkjkgaaGreatDoor
open Go.ChangeShapes Go.WideShapes Go.ChangeAt Go.RowKit
theorem alloc1B (w : World) (o : Obj) : Below w.heap.size w (w.alloc o) := (Below.refl _ _).alloc (Nat.le_refl _) _
structure Rws (w : World) (A : Option Addr) (cs : List Value) : Prop where
 at_ : ∀ j v, cs[j]? = some v → ∃ b off, A = some ⟨b, off, none⟩ ∧ b < w.heap.size ∧ w.cell? ⟨b, off + j, none⟩ = some v
theorem Rws.on {w w' : World} {A : Option Addr} {cs : List Value} (h : Rws w A cs) (hb : Below w.heap.size w w') : Rws w' A cs := ⟨fun j v hv => by
 obtain ⟨b, off, hA, hlt, hc⟩ := h.at_ j v hv
 exact ⟨b, off, hA, Nat.lt_of_lt_of_le hlt hb.size, (hb.cell (p := ⟨b, off + j, none⟩) hlt).trans hc⟩⟩
theorem Rws.far {w w' : World} {A : Option Addr} {cs : List Value} {B : Nat} (h : Rws w A cs) (hb : Below B w w') (hB : ∀ a, A = some a → a.block < B) : Rws w' A cs := ⟨fun j v hv => by
 obtain ⟨b, off, rfl, hlt, hc⟩ := h.at_ j v hv
 exact ⟨b, off, rfl, Nat.lt_of_lt_of_le hlt hb.size, (hb.cell (p := ⟨b, off + j, none⟩) (hB ⟨b, off, none⟩ rfl)).trans hc⟩⟩
theorem Rws.nil (w : World) (A : Option Addr) : Rws w A [] := ⟨fun j v hv => by simp at hv⟩
theorem Rws.no {w : World} {cs : List Value} (h : Rws w none cs) : cs = [] := by
 cases cs with
 | nil => rfl
 | cons x t => obtain ⟨b, off, e, _⟩ := h.at_ 0 x rfl; cases e
theorem Rws.lies {w : World} {A : Option Addr} {cs : List Value} (h : Rws w A cs) (hp : 0 < cs.length) : ∃ b off, A = some ⟨b, off, none⟩ ∧ b < w.heap.size ∧ ∀ j v, cs[j]? = some v → w.cell? ⟨b, off + j, none⟩ = some v := by
 obtain ⟨b, off, e, hlt, -⟩ := h.at_ 0 _ (List.getElem?_eq_getElem hp)
 refine ⟨b, off, e, hlt, fun j v hv => ?_⟩
 obtain ⟨b', off', e', -, hc⟩ := h.at_ j v hv
 rw [e] at e'
 cases e'
 exact hc
theorem Rws.drop {w : World} {b off k : Nat} {cs : List Value} (h : Rws w (some ⟨b, off, none⟩) cs) : Rws w (some ⟨b, off + k, none⟩) (cs.drop k) := ⟨fun j v hv => by
 rw [List.getElem?_drop] at hv
 obtain ⟨b', off', e, hlt, hc⟩ := h.at_ (k + j) v hv
 cases e
 exact ⟨b, off + k, rfl, hlt, by rw [Nat.add_assoc]; exact hc⟩⟩
theorem Rws.of_own {w : World} {B e sz n : Nat} {v : Value} {xs : List Value} (h : w.ownsRow B e sz v n xs) : ∃ A c, v = .slice A n c ∧ n ≤ c ∧ (A = none → c = 0) ∧ Rws w A xs ∧ ∀ a, A = some a → B ≤ a.block ∧ a.block < w.heap.size := by
 have hl := h.1
 obtain ⟨A, c, rfl, hc, ho, hx⟩ := Rw.own_cells h
 refine ⟨A, c, rfl, hc, ?_, ⟨fun j u hj => ?_⟩, fun a ha => h.lt _ (ho a ha)⟩
 ·rintro rfl
  rcases h.2 with ⟨e1, _⟩ | ⟨g, cap, cur, e1, _⟩
  ·exact (Value.slice.inj e1).2.2
  ·exact absurd (Value.slice.inj e1).1 (by simp)
 ·have hj2 : j < n * sz := by rw [← hl]; exact (List.getElem?_eq_some_iff.1 hj).1
  have hn : 0 < n := by
   rcases Nat.eq_zero_or_pos n with h0 | h0
   ·rw [h0, Nat.zero_mul] at hj2; omega
   ·exact h0
  obtain ⟨g, rfl, hg, hcell⟩ := hx hn
  exact ⟨g, 0, rfl, hg, by rw [Nat.zero_add, hcell j hj2]; exact hj⟩
theorem rws_add (b off j : Nat) : (⟨b, off, none⟩ : Addr).add j = ⟨b, off + j, none⟩ := by
 unfold Addr.add
 split
 ·rename_i h0
  have : j = 0 := by simpa using h0
  rw [this]; rfl
 ·rfl
theorem Rws.of_news {w : World} {b off : Nat} {cs : List Value} (h : ∀ j u, cs[j]? = some u → w.cell? ⟨b, off + j, none⟩ = some u) : Rws w (some ⟨b, off, none⟩) cs := ⟨fun j u hu =>
 ⟨b, off, rfl, World.block_lt_of_cell? w _ (h j u hu), h j u hu⟩⟩
theorem wpList_append_rws {P : Program} (w : World) {ops : Array Oper} {rest : List Oper} {o : Oper} {a : Act} {Q : Exit → Act → World → Prop} (hgd : o.guard = none) (s x : Operand) (t : TypeId)
  (ho : o.op = .call { callee := .builtin .append, args := #[s, x], argTypes := #[t, t] })
  (base : Nat) (E : TypeId) (i : TypeInfo) (z : Value) (sz by_ : Nat) (ht : P.underlying t = some (.slice E)) (hi : P.info? E = some i) (hz : i.zero = some z)
  (hsize : i.size = sz) (hby : i.bytes = by_) (hzs : z.cells.size = sz) (h0 : 0 < sz) (hsmall : by_ ≤ 1000) {v : Value} {m : Nat} {xs : List Value} (hs : a.eval s = v) (hown : w.ownsRow base E sz v m xs)
  {A : Option Addr} {n c : Nat} {cs : List Value} (hx : a.eval x = .slice A n c) (hl : Rws w A cs) (hlen : cs.length = n * sz) (hone : ∀ u ∈ cs, u.oneCell' = true) (hn : m + n ≤ 100000) (hnil : A = none → c = 0) (hbase : base ≤ w.heap.size)
  (h : ∀ v' w', w'.ownsRow base E sz v' (m + n) (xs ++ cs) → w.grownBy w' v.ownBlock → wpList P ops Q rest (a.put o.dst v') w') : wpList P ops Q (o :: rest) a w := by
 cases A with
 | none =>
  have e := hl.no
  subst e
  have hn0 : n = 0 := by
   rcases Nat.eq_zero_or_pos n with h1 | h1
   ·exact h1
   ·have := Nat.mul_pos h1 h0
    simp at hlen; omega
  subst hn0
  have ec := hnil rfl
  subst ec
  refine wpList_append_own_none hgd s x t ho base E i sz ht hi v m xs hs hown hx (h _ _ ?_ (World.grownBy.refl _ _))
  rw [List.append_nil]
  exact hown
 | some ad =>
  have hb1 : (m + n) * by_ ≤ 100000 * 1000 := Nat.mul_le_mul hn hsmall
  refine wpList_append_own w hgd s x t ho base E i z sz by_ ht hi hz hsize hby hzs h0 v m xs hs hown ad n c cs hx hlen ?_ hone (by unfold maxLen; omega) (by omega) hbase ?_
  ·intro j u hu
   obtain ⟨b, off, e, -, hc⟩ := hl.at_ j u hu
   cases e
   rw [rws_add]
   exact hc
  ·intro v' w' h1 h2 _
   exact h v' w' h1 h2
theorem drewN_below {B : Nat} {a w : World} (h : Below B a w) (n : Nat) : Below B a (w.drewN n) := ⟨h.os, h.tape, h.output, h.size, h.block⟩
theorem not_empty {s : ByteArray} (h : s.size ≠ 0) : s.toList.isEmpty = false := by
 rw [Go.ByteArray.toList_eq]
 cases hl : s.data.toList with
 | nil => exact absurd (by show s.data.size = 0; rw [← Array.length_toList, hl]; rfl) h
 | cons b l => rfl
theorem code_ne {n : Nat} (h : n ≠ 0) : ((n : Int) != 0) = true := by rw [bne_iff_ne]; omega
def Box (b : Nat) (x y : Value) (w : World) : Prop := w.cell? ⟨b, 0, none⟩ = some x ∧ w.cell? ⟨b, 1, none⟩ = some y ∧ ∀ j, w.frozen? ⟨b, j, none⟩ = false
theorem Box.new (x y : Value) (t : TypeId) (w : World) : Box w.heap.size x y (w.alloc (.cells #[x, y] t)) := ⟨cell_new _ _ _ _ _ rfl, cell_new _ _ _ _ _ rfl, fun _ => free_new _ _ _ _ _ rfl⟩
theorem Box.below {b B : Nat} {x y : Value} {w w' : World} (h : Box b x y w) (hb : Below B w w') (hB : b < B) : Box b x y w' :=
 ⟨(hb.cell (p := ⟨b, 0, none⟩) hB).trans h.1, (hb.cell (p := ⟨b, 1, none⟩) hB).trans h.2.1, fun j => (hb.frozen (p := ⟨b, j, none⟩) hB).trans (h.2.2 j)⟩
theorem code_eq {n : Nat} (h : n = 0) : ((n : Int) != 0) = false := by rw [h]; rfl
theorem octAwake2_any (w : World) : Calls Tryz.prog 124 #[] w fun x w' => x = .returned (.bool true) ∧ Below w.heap.size w w' := by
 go_enter Tryz.func124, Tryz.ntmps124
 go_wp2_with fail
 refine (octAwake_any _).mono ?_
 rintro x w1 ⟨rfl, b1⟩
 have B1 := Lib.hid b1
 clear b1
 go_wp2_with fail
 go_ret
 exact ⟨rfl, B1.out⟩
theorem mark_nat (b : UInt8) : Wrd.mark b = ((decide (97 ≤ b.toNat) && decide (b.toNat ≤ 122)) || (decide (48 ≤ b.toNat) && decide (b.toNat ≤ 57)) || decide (b.toNat = 45) || decide (b.toNat = 95)) := rfl
set_option maxHeartbeats 1000000 in
theorem mark_any (b : UInt8) (w : World) : Calls Tryz.prog 122 #[.int .u8 (b.toNat : Int)] w fun e w' => e = .returned (.bool (Wrd.mark b)) ∧ w = w' := by
 have hb := b.toNat_lt
 have HM := Lib.hid (mark_nat b)
 generalize Wrd.mark b = M at *
 generalize b.toNat = n at *
 go_enter Tryz.func122, Tryz.ntmps122
 go_wp2
 all_goals
  go_ret
  refine ⟨ret_bool ?_, rfl⟩
  rw [HM.out, Bool.eq_iff_iff]
  simp
  omega
set_option maxHeartbeats 1000000 in
theorem letter_any (b : UInt8) (w : World) : Calls Tryz.prog 91 #[.int .u8 (b.toNat : Int)] w fun e w' => e = .returned (.bool (Wrd.mark b)) ∧ w = w' := by
 have hb := b.toNat_lt
 have HM := Lib.hid (mark_nat b)
 generalize Wrd.mark b = M at *
 generalize b.toNat = n at *
 go_enter Tryz.func91, Tryz.ntmps91
 go_wp2
 all_goals
  go_ret
  refine ⟨ret_bool ?_, rfl⟩
  rw [HM.out, Bool.eq_iff_iff]
  simp
  omega
theorem all_take (l : List UInt8) (k : Nat) (h : k < l.length) : (l.take (k + 1)).all Wrd.mark = ((l.take k).all Wrd.mark && Wrd.mark l[k]) := by
 rw [List.take_succ_eq_append_getElem h, List.all_append]; simp
theorem all_not {l : List UInt8} {k : Nat} (h : k < l.length) (hm : Wrd.mark l[k] = false) : l.all Wrd.mark = false := by
 rw [List.all_eq_false]
 exact ⟨l[k], List.getElem_mem h, by rw [hm]; simp⟩
theorem str_ne {l : List UInt8} (h : l.length ≠ 0) : (ofL l).toList.isEmpty = false := not_empty (by rw [ofL_size]; exact h)
theorem ofL_nil {l : List UInt8} (h : l.length = 0) : ofL l = ⟨#[]⟩ := by rw [List.length_eq_zero_iff.1 h]; rfl
set_option maxHeartbeats 1000000 in
theorem plain_any (l : List UInt8) (w : World) (hl : l.length ≤ 100000) : Calls Tryz.prog 103 #[.string (ofL l)] w fun e w' => e = .returned (.bool (Wrd.plain l)) ∧ w = w' := by
 have hsz : (ofL l).size = l.length := ofL_size l
 have HG : Hid (∀ p (h : p < l.length), (ofL l)[p]'(by rw [hsz]; exact h) = l[p]) := fun p h => rfl
 have HA := Lib.hid (fun k h => all_take l k h)
 have HN := Lib.hid (fun k (h : k < l.length) => all_not (l := l) (k := k) h)
 have HP : Hid (Wrd.plain l = (l.all Wrd.mark && decide (l.length ≠ 0))) := rfl
 generalize Wrd.plain l = PL at *
 go_enter Tryz.func103, Tryz.ntmps103
 go_wp2_with fail
 go_loopg [6] l.length (fun g i wr => ∃ k : Nat, k + g = l.length ∧ i = .int .i64 k ∧ (l.take k).all Wrd.mark = true ∧ wr = w)
 case atStart => exact ⟨0, by omega, rfl, by simp, rfl⟩
 case round =>
  obtain ⟨k, hk, rfl, hall, rfl⟩ := hrel
  have HALL := Lib.hid hall
  clear hall
  by_cases hlt : k < l.length
  ·have hks : k < (ofL l).size := by omega
   have HGK := Lib.hid (HG.out k hlt)
   have HM := Lib.hid (fun W => mark_any (ofL l)[k] W)
   cases hm : Wrd.mark (l[k]'hlt) with
   | true =>
    have HT := Lib.hid (show (l.take (k + 1)).all Wrd.mark = true by rw [HA.out k hlt, HALL.out, hm]; rfl)
    rw [← HGK.out] at hm
    rw [hm] at HM
    clear hm
    go_wp2_with fail
    refine (HM.out _).mono ?_
    rintro e w' ⟨rfl, rfl⟩
    go_wp2_with fail
    go_roundg (gk - 1)
    case rel => exact ⟨k + 1, by omega, by go_num, HT.out, rfl⟩
    case measure => omega
   | false =>
    have HF := Lib.hid (show PL = false by rw [HP.out, HN.out k hlt hm]; rfl)
    rw [← HGK.out] at hm
    rw [hm] at HM
    clear hm
    go_wp2_with fail
    refine (HM.out _).mono ?_
    rintro e w' ⟨rfl, rfl⟩
    go_wp2_with fail
    go_ret
    exact ⟨ret_bool HF.out.symm, rfl⟩
  ·have hkl : k = l.length := by omega
   have HT := Lib.hid (show l.all Wrd.mark = true by have := HALL.out; rw [hkl, List.take_length] at this; exact this)
   by_cases h0 : l.length = 0
   ·have HF := Lib.hid (show PL = false by rw [HP.out, HT.out, h0]; rfl)
    have he : (ofL l) = ⟨#[]⟩ := ofL_nil h0
    have hks : ¬ k < (ofL l).size := by omega
    rw [he] at hks ⊢
    clear hkl he h0
    go_wp2_with fail
    go_ret
    exact ⟨ret_bool HF.out.symm, rfl⟩
   ·have HF := Lib.hid (show PL = true by rw [HP.out, HT.out]; simp [h0])
    have he := str_ne h0
    have hks : ¬ k < (ofL l).size := by omega
    clear hkl h0
    go_wp2_with fail
    go_ret
    exact ⟨ret_bool HF.out.symm, rfl⟩
end Go.Proofs.YtaikigponkjkgaaGreatDoor
end
