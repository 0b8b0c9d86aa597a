/-
  BOOKS IN MEMORY: exchanges, bindings with their pairs.
-/
import Derived.Test.YtecjngodfciokaaGreatDoorCc03
import Derived.Test.YtecjngodfciokaaGreatDoorCc05
import Derived.Test.YtecjngodfciokaaGreatDoorCc15
import Derived.Test.YtecjngodfciokaaGreatDoorCc21

section
namespace Go.Proofs.YtecjngodfciokaaGreatDoor
open Go.ChangeShapes Go.WideShapes Go.ChangeAt Go.RowKit
/-- an element of a row of structs -/
theorem Rws.elt {α : Type} (f : α → List Value) (k : Nat) (hf : ∀ x, (f x).length = k) (hk : 0 < k) {w : World} {A : Option Addr} {l : List α} (h : Rws w A (l.flatMap f)) {i : Nat} (hi : i < l.length) :
    ∃ b off, A = some ⟨b, off, none⟩ ∧ b < w.heap.size ∧ ∀ j v, (f l[i])[j]? = some v → w.cell? ⟨b, off + i * k + j, none⟩ = some v := by
  obtain ⟨b, off, e, hlt, hc⟩ := Rws.lies h (by rw [Rw.flat_len f k hf]; exact Nat.mul_pos (by omega) hk)
  refine ⟨b, off, e, hlt, fun j v hv => ?_⟩
  have hj : j < k := by have := (List.getElem?_eq_some_iff.1 hv).1; rwa [hf] at this
  have := hc (i * k + j) v ((Rw.flat_get f k hf hk l i j hi hj).trans hv)
  rwa [← Nat.add_assoc] at this

def shL (x : Sh) : List Value := [.string (ofL x.name), .int .u8 (x.sort : Int), .string (ofL x.to)]
def shV (x : Sh) : Value := .agg #[.string (ofL x.name), .int .u8 (x.sort : Int), .string (ofL x.to)]
def shs (l : List Sh) : List Value := l.flatMap shL
theorem shs_len (l : List Sh) : (shs l).length = l.length * 3 := Rw.flat_len shL 3 (fun _ => rfl) l
theorem shs_app (l m : List Sh) : shs (l ++ m) = shs l ++ shs m := by simp [shs]
theorem shs_one1 (x : Sh) : shs [x] = shL x := by simp [shs]
theorem shs_get {w : World} {A : Option Addr} {l : List Sh} (h : Rws w A (shs l)) {i : Nat} (hi : i < l.length) :
    ∃ b off, A = some ⟨b, off, none⟩ ∧ b < w.heap.size ∧ ∀ j v, (shL l[i])[j]? = some v → w.cell? ⟨b, off + i * 3 + j, none⟩ = some v := Rws.elt shL 3 (fun _ => rfl) (by decide) h hi
/-- a binding, and where its pairs lie -/
structure Bp where
  x : Bd
  A : Option Addr
  c : Nat
def bdL (x : Bd) (A : Option Addr) (c : Nat) : List Value := [.string (ofL x.shop), .string (ofL x.to), .bool x.up, .string (ofL x.key), .slice A x.want.length c, .bool x.all]
def bdV (x : Bd) (A : Option Addr) (c : Nat) : Value := .agg #[.string (ofL x.shop), .string (ofL x.to), .bool x.up, .string (ofL x.key), .slice A x.want.length c, .bool x.all]
def bpL (p : Bp) : List Value := bdL p.x p.A p.c
def bps (l : List Bp) : List Value := l.flatMap bpL
theorem bps_len (l : List Bp) : (bps l).length = l.length * 6 := Rw.flat_len bpL 6 (fun _ => rfl) l
theorem bps_app (l m : List Bp) : bps (l ++ m) = bps l ++ bps m := by simp [bps]
theorem bps_one1 (p : Bp) : bps [p] = bpL p := by simp [bps]
theorem bps_get {w : World} {A : Option Addr} {l : List Bp} (h : Rws w A (bps l)) {i : Nat} (hi : i < l.length) :
    ∃ b off, A = some ⟨b, off, none⟩ ∧ b < w.heap.size ∧ ∀ j v, (bpL l[i])[j]? = some v → w.cell? ⟨b, off + i * 6 + j, none⟩ = some v := Rws.elt bpL 6 (fun _ => rfl) (by decide) h hi
/-- a binding that can be walked -/
structure BdOk (w : World) (x : Bd) (A : Option Addr) (c : Nat) : Prop where
  shop : x.shop.length ≤ 90000
  tol : x.to.length ≤ 90000
  key : x.key.length ≤ 90000
  len : x.want.length ≤ 100000
  cap : x.want.length ≤ c
  lite : Lite x.want
  row : Prs w A x.want
theorem BdOk.on {w w' : World} {x : Bd} {A : Option Addr} {c : Nat} (h : BdOk w x A c) (hb : Below w.heap.size w w') : BdOk w' x A c := ⟨h.shop, h.tol, h.key, h.len, h.cap, h.lite, h.row.on hb⟩
def bdRu (sort : Nat) (x : Bd) : Ru := ⟨sort, x.key, x.want, x.all⟩
theorem BdOk.ru {w : World} {x : Bd} {A : Option Addr} {c : Nat} (h : BdOk w x A c) (sort : Nat) : RuOk w (bdRu sort x) A c := ⟨h.key, h.len, h.cap, h.lite, h.row⟩
/-- exchanges lie there -/
structure Shs (w : World) (A : Option Addr) (l : List Sh) : Prop where
  row : Rws w A (shs l)
theorem Shs.on {w w' : World} {A : Option Addr} {l : List Sh} (h : Shs w A l) (hb : Below w.heap.size w w') : Shs w' A l := ⟨Rws.on h.row hb⟩
theorem Shs.nil (w : World) (A : Option Addr) : Shs w A [] := ⟨Rws.nil w A⟩
/-- bindings lie there, and their pairs -/
structure Bds (w : World) (A : Option Addr) (l : List Bp) : Prop where
  row : Rws w A (bps l)
  ok : ∀ p ∈ l, BdOk w p.x p.A p.c
theorem Bds.on {w w' : World} {A : Option Addr} {l : List Bp} (h : Bds w A l) (hb : Below w.heap.size w w') : Bds w' A l := ⟨Rws.on h.row hb, fun p hp => (h.ok p hp).on hb⟩
theorem Bds.nil (w : World) (A : Option Addr) : Bds w A [] := ⟨Rws.nil w A, fun _ h => by simp at h⟩
theorem bx_len {m : List Bp} {l : List Bd} (h : m.map Bp.x = l) : m.length = l.length := by rw [← h]; simp
/-- a book's value, and what it holds -/
structure BkAt (w : World) (A : Option Addr) (c : Nat) (B : Option Addr) (d : Nat) (b : Bk) (ps : List Bp) : Prop where
  xs : ps.map Bp.x = b.binds
  capA : b.shops.length ≤ c
  nilA : A = none → c = 0
  capB : ps.length ≤ d
  nilB : B = none → d = 0
  shs : Shs w A b.shops
  bds : Bds w B ps
theorem BkAt.on {w w' : World} {A : Option Addr} {c : Nat} {B : Option Addr} {d : Nat} {b : Bk} {ps : List Bp} (h : BkAt w A c B d b ps) (hb : Below w.heap.size w w') : BkAt w' A c B d b ps := ⟨h.xs, h.capA, h.nilA, h.capB, h.nilB, h.shs.on hb, h.bds.on hb⟩
def bkV (A : Option Addr) (c : Nat) (B : Option Addr) (d : Nat) (b : Bk) : Value := .agg #[.slice A b.shops.length c, .slice B b.binds.length d]
theorem BkAt.nil (w : World) : BkAt w none 0 none 0 Bk.empty [] := ⟨rfl, Nat.le_refl _, fun _ => rfl, Nat.le_refl _, fun _ => rfl, Shs.nil _ _, Bds.nil _ _⟩
theorem BkAt.len {w : World} {A : Option Addr} {c : Nat} {B : Option Addr} {d : Nat} {b : Bk} {ps : List Bp} (h : BkAt w A c B d b ps) : ps.length = b.binds.length := bx_len h.xs
/-- in which blocks a book lies -/
structure BkU (U : Nat → Prop) (w : World) (A B : Option Addr) (ps : List Bp) : Prop where
  a : ∀ x, A = some x → U x.block ∧ x.block < w.heap.size
  b : ∀ x, B = some x → U x.block ∧ x.block < w.heap.size
  p : ∀ q ∈ ps, q.x.want ≠ [] → ∀ x, q.A = some x → U x.block ∧ x.block < w.heap.size
theorem BkU.on {U : Nat → Prop} {w w' : World} {A B : Option Addr} {ps : List Bp} (h : BkU U w A B ps) (hb : w.heap.size ≤ w'.heap.size) : BkU U w' A B ps :=
  ⟨fun x hx => ⟨(h.a x hx).1, Nat.lt_of_lt_of_le (h.a x hx).2 hb⟩, fun x hx => ⟨(h.b x hx).1, Nat.lt_of_lt_of_le (h.b x hx).2 hb⟩, fun q hq hw x hx => ⟨(h.p q hq hw x hx).1, Nat.lt_of_lt_of_le (h.p q hq hw x hx).2 hb⟩⟩
theorem BkU.mono {U V : Nat → Prop} {w : World} {A B : Option Addr} {ps : List Bp} (h : BkU U w A B ps) (hv : ∀ g, U g → V g) : BkU V w A B ps :=
  ⟨fun x hx => ⟨hv _ (h.a x hx).1, (h.a x hx).2⟩, fun x hx => ⟨hv _ (h.b x hx).1, (h.b x hx).2⟩, fun q hq hw x hx => ⟨hv _ (h.p q hq hw x hx).1, (h.p q hq hw x hx).2⟩⟩
theorem BkU.self {U : Nat → Prop} {w : World} {A B : Option Addr} {ps : List Bp} (h : BkU U w A B ps) : BkU (fun g => U g ∧ g < w.heap.size) w A B ps :=
  ⟨fun x hx => ⟨h.a x hx, (h.a x hx).2⟩, fun x hx => ⟨h.b x hx, (h.b x hx).2⟩, fun q hq hw x hx => ⟨h.p q hq hw x hx, (h.p q hq hw x hx).2⟩⟩
theorem BkU.nil (U : Nat → Prop) (w : World) : BkU U w none none [] := ⟨(fun x h => by cases h), (fun x h => by cases h), (fun q h => by simp at h)⟩
theorem rwsPut {w : World} {A : Option Addr} {cs : List Value} {b : Nat} (h : Rws w A cs) (hne : ∀ a, A = some a → a.block ≠ b) (j : Nat) (v : Value) : Rws (w.setCell ⟨b, j, none⟩ v) A cs := ⟨fun i u hu => by
  obtain ⟨g, off, rfl, hlt, hc⟩ := h.at_ i u hu
  have hg : g ≠ b := hne _ rfl
  exact ⟨g, off, rfl, by simpa using hlt, (World.cell?_setCell_other _ _ _ _ (by intro e; simp only [Addr.mk.injEq] at e; omega)).trans hc⟩⟩
theorem BdOk.put {w : World} {x : Bd} {A : Option Addr} {c g : Nat} (h : BdOk w x A c) (hg : x.want ≠ [] → ∀ a, A = some a → a.block ≠ g) (j : Nat) (v : Value) : BdOk (w.setCell ⟨g, j, none⟩ v) x A c := by
  refine ⟨h.shop, h.tol, h.key, h.len, h.cap, h.lite, ?_⟩
  by_cases e : x.want = []
  · rw [e]; exact Prs.nil _ _
  · exact h.row.aside (fun a ha => Ne.symm (hg e a ha)) j v
theorem BkAt.put {U : Nat → Prop} {w : World} {A : Option Addr} {c : Nat} {B : Option Addr} {d : Nat} {b : Bk} {ps : List Bp} (h : BkAt w A c B d b ps) (hu : BkU U w A B ps) {g : Nat} (hg : ¬ U g) (j : Nat) (v : Value) : BkAt (w.setCell ⟨g, j, none⟩ v) A c B d b ps :=
  ⟨h.xs, h.capA, h.nilA, h.capB, h.nilB, ⟨rwsPut h.shs.row (fun a ha e => by have h9 := (hu.a a ha).1; rw [e] at h9; exact hg h9) j v⟩, ⟨rwsPut h.bds.row (fun a ha e => by have h9 := (hu.b a ha).1; rw [e] at h9; exact hg h9) j v, fun p hp => (h.bds.ok p hp).put (fun hw a ha e => by have h9 := (hu.p p hp hw a ha).1; rw [e] at h9; exact hg h9) j v⟩⟩
theorem BkU.put {U : Nat → Prop} {w : World} {A B : Option Addr} {ps : List Bp} (h : BkU U w A B ps) (g j : Nat) (v : Value) : BkU U (w.setCell ⟨g, j, none⟩ v) A B ps := h.on (by simp)
/-- what a call leaves that answers a book -/
def BkPost (U : Nat → Prop) (b : Bk) (code : Nat) (w : World) (e : Ending) (w' : World) : Prop := ∃ A c B d ps, e = .returned (.tuple #[bkV A c B d b, .int .i64 (code : Int)]) ∧ BkAt w' A c B d b ps ∧ BkU (fun g => U g ∨ w.heap.size ≤ g) w' A B ps ∧ Below w.heap.size w w'
theorem rtOne (w : World) (o : Obj) : Below w.heap.size w (w.alloc o) := (Below.refl _ _).alloc (Nat.le_refl _) _
theorem rtTwo (w : World) (o o' : Obj) : Below w.heap.size w ((w.alloc o).alloc o') := ((Below.refl _ _).alloc (Nat.le_refl _) _).alloc (by simp) _
theorem rtThree (w : World) (o o' o'' : Obj) : Below w.heap.size w (((w.alloc o).alloc o').alloc o'') := (((Below.refl _ _).alloc (Nat.le_refl _) _).alloc (by simp) _).alloc (by simp; omega) _
theorem rtAt0 (w : World) (c : Array Value) (t : TypeId) : BoxC w w.heap.size c.toList (w.alloc (.cells c t)) := BoxC.new (Nat.le_refl _) c t
theorem rtNext {w W : World} {c : Nat} {xs : List Value} (h : BoxC w c xs W) (o : Obj) : BoxC w c xs (W.alloc o) := h.on (rtOne W o)
theorem rtAt1 (w : World) (o : Obj) (c : Array Value) (t : TypeId) : BoxC w (w.heap.size + 1) c.toList ((w.alloc o).alloc (.cells c t)) := by
  have := BoxC.new (w := w) (W := w.alloc o) (by simp) c t
  rwa [show (w.alloc o).heap.size = w.heap.size + 1 by simp] at this
theorem rtAt2 (w : World) (o o' : Obj) (c : Array Value) (t : TypeId) : BoxC w (w.heap.size + 2) c.toList (((w.alloc o).alloc o').alloc (.cells c t)) := by
  have := BoxC.new (w := w) (W := (w.alloc o).alloc o') (by simp; omega) c t
  rwa [show ((w.alloc o).alloc o').heap.size = w.heap.size + 2 by simp] at this
theorem rtKept {w W W' : World} {c : Nat} {xs : List Value} {row : Option Nat} (h : BoxC w c xs W) (hg : W.grownBy W' row) (hne : some c ≠ row) : BoxC w c xs W' :=
  ⟨h.cs.grown hg hne, h.s.grown hg h.lt hne, Nat.lt_of_lt_of_le h.lt hg.size, h.ge⟩
theorem rtDrew {w W : World} {c : Nat} {xs : List Value} (h : BoxC w c xs W) : BoxC w c xs W.drew := h.on (Below.refl _ _).drew
theorem rtCell {b off : Nat} {w W : World} {v : Value} (hb : Below w.heap.size w W) (h : w.cell? ⟨b, off, none⟩ = some v) : W.cell? ⟨b, off, none⟩ = some v := (hb.cell (p := ⟨b, off, none⟩) (World.block_lt_of_cell? w _ h)).trans h
end Go.Proofs.YtecjngodfciokaaGreatDoor
end
