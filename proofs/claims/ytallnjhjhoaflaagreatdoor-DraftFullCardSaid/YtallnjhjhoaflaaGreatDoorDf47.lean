/-
  TO WHICH QUEUES AND PLACES, the document's: walked. What is done to the program's book and the document's: boxes, and what holds. ACTS THAT COME IN; which of them are gone through: walked.
-/
import Derived.Test.YtallnjhjhoaflaaGreatDoorDf45
import Derived.Test.YtallnjhjhoaflaaGreatDoorDf46

section
namespace Go.Proofs.YtallnjhjhoaflaaGreatDoor
open Go.ChangeShapes Go.WideShapes Go.ChangeAt Go.RowKit
/-- the two rows of names, so far -/
structure Lq (s : Sh) (key : List UInt8) (h : List Hd.Pr) (l : List Bd) (w2 : World) (k : Nat) (A : Option Addr) (c : Nat) (B : Option Addr) (d : Nat) (ql pl : List (List UInt8)) (wr : World) : Prop where
  eq : ql = Bk.lead s false key h (l.take k)
  ep : pl = Bk.lead s true key h (l.take k)
  oq : wr.ownsRow w2.heap.size 9 1 (.slice A ql.length c) ql.length (sts ql)
  op : wr.ownsRow w2.heap.size 9 1 (.slice B pl.length d) pl.length (sts pl)
  ne : (Value.slice A ql.length c).ownBlock = none ∨ (Value.slice A ql.length c).ownBlock ≠ (Value.slice B pl.length d).ownBlock
  B : Below w2.heap.size w2 wr
theorem Lq.on {s : Sh} {key : List UInt8} {h : List Hd.Pr} {l : List Bd} {w2 : World} {k : Nat} {A : Option Addr} {c : Nat} {B : Option Addr} {d : Nat} {ql pl : List (List UInt8)} {wr W : World} (H : Lq s key h l w2 k A c B d ql pl wr) (hb : Below wr.heap.size wr W) : Lq s key h l w2 k A c B d ql pl W :=
  ⟨H.eq, H.ep, Rw.own_on H.oq hb, Rw.own_on H.op hb, H.ne, bthen H.B hb (Nat.le_refl _)⟩
end Go.Proofs.YtallnjhjhoaflaaGreatDoor
end
section
namespace Go.Proofs.YtallnjhjhoaflaaGreatDoor
open Go.ChangeShapes Go.WideShapes Go.ChangeAt Go.RowKit
namespace Bk
/-- what an act does -/
def act (k : Nat) (s : Sh) (x : Bd) (b : Bk) : Bk × Nat := if k % 5 = 0 then b.make s else if k % 5 = 1 then b.drop s.name else if k % 5 = 2 then b.bind x else if k % 5 = 3 then b.unbind x else (b.forget x.to, 0)
theorem Ok.act {b : Bk} (h : Ok b) (k : Nat) (s : Sh) (x : Bd) : Ok (b.act k s x).1 := by
  unfold Bk.act
  split
  · exact h.make s
  · split
    · exact h.drop _
    · split
      · exact h.bind x
      · split
        · exact h.unbind x
        · exact h.forget _
end Bk
def actL (k : Nat) (s : Sh) (x : Bd) (Ax : Option Addr) (cx : Nat) : List Value := [.int .u8 (k : Int), .string (ofL s.name), .int .u8 (s.sort : Int), .string (ofL s.to), .string (ofL x.shop), .string (ofL x.to), .bool x.up, .string (ofL x.key), .slice Ax x.want.length cx, .bool x.all]
/-- five boxes of one's own, and that nothing older has changed -/
structure Dn (w : World) (X Y V : List Value) (W : World) : Prop where
  bx : BoxC w w.heap.size X W
  bs : BoxC w (w.heap.size + 1) Y W
  ba : BoxC w (w.heap.size + 2) V W
  r1 : BoxC w (w.heap.size + 3) [.slice none 0 0, .slice none 0 0] W
  r2 : BoxC w (w.heap.size + 4) [.slice none 0 0, .slice none 0 0] W
  B : Below w.heap.size w W
  n : w.heap.size + 5 ≤ W.heap.size
theorem Dn.on {w W W' : World} {X Y V : List Value} (h : Dn w X Y V W) (hb : Below W.heap.size W W') : Dn w X Y V W' := ⟨h.bx.on hb, h.bs.on hb, h.ba.on hb, h.r1.on hb, h.r2.on hb, bthen h.B hb (Nat.le_refl _), Nat.le_trans h.n hb.size⟩
theorem dnAt (w : World) (o o' o'' : Obj) (c : Array Value) (t : TypeId) : BoxC w (w.heap.size + 3) c.toList ((((w.alloc o).alloc o').alloc o'').alloc (.cells c t)) := by
  have := BoxC.new (w := w) (W := ((w.alloc o).alloc o').alloc o'') (by simp; omega) c t
  rwa [show (((w.alloc o).alloc o').alloc o'').heap.size = w.heap.size + 3 by simp] at this
theorem dnAt4 (w : World) (o o' o'' o3 : Obj) (c : Array Value) (t : TypeId) : BoxC w (w.heap.size + 4) c.toList (((((w.alloc o).alloc o').alloc o'').alloc o3).alloc (.cells c t)) := by
  have := BoxC.new (w := w) (W := (((w.alloc o).alloc o').alloc o'').alloc o3) (by simp; omega) c t
  rwa [show ((((w.alloc o).alloc o').alloc o'').alloc o3).heap.size = w.heap.size + 4 by simp] at this
theorem Dn.new (w : World) (X Y V : Array Value) (t t' t'' t3 t4 : TypeId) : Dn w X.toList Y.toList V.toList (((((w.alloc (.cells X t)).alloc (.cells Y t')).alloc (.cells V t'')).alloc (.cells #[.slice none 0 0, .slice none 0 0] t3)).alloc (.cells #[.slice none 0 0, .slice none 0 0] t4)) :=
  ⟨rtNext (rtNext (rtNext (rtNext (rtAt0 w X t) _) _) _) _, rtNext (rtNext (rtNext (rtAt1 w _ Y t') _) _) _, rtNext (rtNext (rtAt2 w _ _ V t'') _) _, rtNext (dnAt w _ _ _ #[.slice none 0 0, .slice none 0 0] t3) _, dnAt4 w _ _ _ _ #[.slice none 0 0, .slice none 0 0] t4, ((rtThree w _ _ _).alloc (by simp; omega) _).alloc (by simp; omega) _, by simp⟩
/-- a book elsewhere than in the boxes -/
structure BkD (U : Nat → Prop) (w : World) (W : World) (A : Option Addr) (c : Nat) (B : Option Addr) (d : Nat) (b : Bk) (ps : List Bp) : Prop where
  at_ : BkAt W A c B d b ps
  u : BkU (fun g => (U g ∧ g < w.heap.size) ∨ w.heap.size + 5 ≤ g) W A B ps
theorem BkD.on {U : Nat → Prop} {w W W' : World} {A : Option Addr} {c : Nat} {B : Option Addr} {d : Nat} {b : Bk} {ps : List Bp} (h : BkD U w W A c B d b ps) (hb : Below W.heap.size W W') : BkD U w W' A c B d b ps := ⟨h.at_.on hb, h.u.on hb.size⟩
theorem BkD.put {U : Nat → Prop} {w W : World} {A : Option Addr} {c : Nat} {B : Option Addr} {d : Nat} {b : Bk} {ps : List Bp} (h : BkD U w W A c B d b ps) {g : Nat} (h1 : w.heap.size ≤ g) (h2 : g < w.heap.size + 5) (j : Nat) (v : Value) : BkD U w (W.setCell ⟨g, j, none⟩ v) A c B d b ps :=
  ⟨h.at_.put h.u (by rintro (⟨-, h⟩ | h) <;> omega) j v, h.u.put g j v⟩
theorem BkD.of {U : Nat → Prop} {w W w1 : World} {A : Option Addr} {c : Nat} {B : Option Addr} {d : Nat} {b : Bk} {ps : List Bp} (h1 : BkAt W A c B d b ps) (h2 : BkU (fun g => ((U g ∧ g < w.heap.size) ∨ w.heap.size + 5 ≤ g) ∨ w1.heap.size ≤ g) W A B ps) (hw : w.heap.size + 5 ≤ w1.heap.size) : BkD U w W A c B d b ps :=
  ⟨h1, h2.mono (fun g h => by rcases h with h | h; exact h; exact .inr (by omega))⟩
end Go.Proofs.YtallnjhjhoaflaaGreatDoor
end
section
namespace Go.Proofs.YtallnjhjhoaflaaGreatDoor
open Go.ChangeShapes Go.WideShapes Go.ChangeAt Go.RowKit
structure RaP where
  k : Nat
  s : Sh
  x : Bd
  A : Option Addr
  c : Nat
def raL (p : RaP) : List Value := actL p.k p.s p.x p.A p.c
/-- an act that came in -/
structure RaIn (w : World) (p : RaP) : Prop where
  row : Prs w p.A p.x.want
  cap : p.x.want.length ≤ p.c
  big : p.x.want.length ≤ 9223372036854775807
  s : p.s.sort < 256
  k : p.k < 256
theorem RaIn.on {w w' : World} {p : RaP} (h : RaIn w p) (hb : Below w.heap.size w w') : RaIn w' p := ⟨h.row.on hb, h.cap, h.big, h.s, h.k⟩
structure Ras (w : World) (A : Option Addr) (l : List RaP) : Prop where
  row : Rws w A (l.flatMap raL)
  h : ∀ p ∈ l, RaIn w p
theorem Ras.on {w w' : World} {A : Option Addr} {l : List RaP} (h : Ras w A l) (hb : Below w.heap.size w w') : Ras w' A l := ⟨Rws.on h.row hb, fun p hp => (h.h p hp).on hb⟩
structure RaFew (p : RaP) : Prop where
  s1 : p.s.name.length ≤ 40
  s2 : p.s.to.length ≤ 40
  b1 : p.x.shop.length ≤ 40
  b2 : p.x.to.length ≤ 40
  key : p.x.key.length ≤ 100
  want : lightB p.x.want = true
theorem RaFew.ok {w : World} {p : RaP} (h : RaFew p) (hi : RaIn w p) : BdOk w p.x p.A p.c := by
  obtain ⟨h1, h2, -⟩ := light_lite h.want
  exact ⟨by have := h.b1; omega, by have := h.b2; omega, by have := h.key; omega, by omega, hi.cap, h2, hi.row⟩
end Go.Proofs.YtallnjhjhoaflaaGreatDoor
end
