/-
  A HEAD's BYTES: the document's, walked. THE DOCUMENT's OWN READER, walked: it answers, and leaves, what the program's reader does. READERS over lists of bytes: the program's Fail, the document's reader; what they are alike in. A PAIR READ: the program's, walked. A HEAD READ: the program's, walked.
-/
import Derived.Test.YtecjngodfciokaaGreatDoorCc02
import Derived.Test.YtecjngodfciokaaGreatDoorCc04
import Derived.Test.YtecjngodfciokaaGreatDoorCc08
import Derived.Test.YtecjngodfciokaaGreatDoorCc19
import Derived.Deep.RegionHeld3
import Derived.Deep.DeepCutAuto
import Derived.Deep.AppendLies
section
namespace Go.Proofs.YtecjngodfciokaaGreatDoor
open Go.ChangeShapes Go.WideShapes Go.ChangeAt Go.RowKit
abbrev RbS (w : World) (b : Nat) (k : List UInt8) (kd : Nat) (n : Int) (t : List UInt8) (W : World) : Prop :=
  (W.cell? ⟨b, 0, none⟩ = some (.string (ofL k)) ∧ W.cell? ⟨b, 1, none⟩ = some (.int .u8 (kd : Int)) ∧ b < W.heap.size) ∧ Below w.heap.size w W ∧ PrAt W b 0 ⟨k, kd, n, t⟩ ∧ b < W.heap.size
theorem RbS.on {w : World} {b : Nat} {k : List UInt8} {kd : Nat} {n : Int} {t : List UInt8} {W W' : World} (h : RbS w b k kd n t W) (hb : Below W.heap.size W W') : RbS w b k kd n t W' := by
  obtain ⟨⟨h0, h1, h2⟩, h3, h4, h5⟩ := h
  have hp := h4.below hb h5
  exact ⟨⟨hp.c0, hp.c1, Nat.lt_of_lt_of_le h2 hb.size⟩, bthen h3 hb (Nat.le_refl _), hp, Nat.lt_of_lt_of_le h5 hb.size⟩
end Go.Proofs.YtecjngodfciokaaGreatDoor
end
section
namespace Go.Proofs.YtecjngodfciokaaGreatDoor
open Go.ChangeShapes Go.WideShapes Go.ChangeAt Go.RowKit
/-- the document's reader lies in block b: its text, its place, its error; beside what a reader has by then -/
structure RefAt (b : Nat) (s : ByteArray) (p : Nat) (st : St) (w : World) : Prop where
  c0 : w.cell? ⟨b, 0, none⟩ = some (.string s)
  c1 : w.cell? ⟨b, 1, none⟩ = some (.int .i64 (p : Int))
  c2 : w.cell? ⟨b, 2, none⟩ = some (.int .i64 st.2)
  fr : ∀ j, w.frozen? ⟨b, j, none⟩ = false
  lt : b < w.heap.size
  le : p ≤ s.size
  rest : st.2 = 0 → st.1 = s.extract p s.size
  ok : st.ok
def RefIs (b : Nat) (s : ByteArray) (st : St) (w : World) : Prop := ∃ p, RefAt b s p st w
theorem RefAt.code {b : Nat} {s : ByteArray} {p : Nat} {st : St} {w : World} (h : RefAt b s p st w) (c : Int) (hc : c ≠ 0) : RefAt b s p (ByteArray.empty, c) (w.setCell ⟨b, 2, none⟩ (.int .i64 c)) :=
  ⟨(World.cell?_setCell_other _ _ _ _ (ne_cell b 2 0 (by decide))).trans h.c0, (World.cell?_setCell_other _ _ _ _ (ne_cell b 2 1 (by decide))).trans h.c1, World.cell?_setCell_same _ _ _ h.c2,
    fun j => by rw [World.frozen?_setCell]; exact h.fr j, by have := h.lt; simp [World.setCell]; exact this, h.le, fun h0 => absurd h0 hc, fun _ => rfl⟩
theorem RefAt.drewN {b : Nat} {s : ByteArray} {p : Nat} {st : St} {w : World} (h : RefAt b s p st w) (n : Nat) : RefAt b s p st (w.drewN n) := ⟨h.c0, h.c1, h.c2, h.fr, h.lt, h.le, h.rest, h.ok⟩
theorem RefAt.move {b : Nat} {s : ByteArray} {p : Nat} {st : St} {w : World} (h : RefAt b s p st w) (m : Nat) (hm : p + m ≤ s.size) (h0 : st.2 = 0) : RefAt b s (p + m) (s.extract (p + m) s.size, 0) (w.setCell ⟨b, 1, none⟩ (.int .i64 ((p : Int) + m))) :=
  ⟨(World.cell?_setCell_other _ _ _ _ (ne_cell b 1 0 (by decide))).trans h.c0, (World.cell?_setCell_same _ _ _ h.c1).trans (by rw [Int.natCast_add]), (World.cell?_setCell_other _ _ _ _ (ne_cell b 1 2 (by decide))).trans (h.c2.trans (by rw [h0])),
    fun j => by rw [World.frozen?_setCell]; exact h.fr j, by have := h.lt; simp [World.setCell]; exact this, hm, fun _ => rfl, fun h => absurd rfl h⟩
theorem RefAt.size {b : Nat} {s : ByteArray} {p : Nat} {st : St} {w : World} (h : RefAt b s p st w) (h0 : st.2 = 0) : (st.1.size : Int) = (s.size : Int) - p := by
  rw [h.rest h0, ByteArray.size_extract]
  have := h.le
  omega

end Go.Proofs.YtecjngodfciokaaGreatDoor
end
section
namespace Go.Proofs.YtecjngodfciokaaGreatDoor
open Go.ChangeShapes Go.WideShapes Go.ChangeAt Go.RowKit
/-- the document's reader, of bytes S -/
def RefL (b : Nat) (S : ByteArray) (s : LSt) (w : World) : Prop := RefIs b S (ofL s.1, s.2) w
theorem RefL.code {b : Nat} {S : ByteArray} {s : LSt} {w : World} (h : RefL b S s w) : w.cell? ⟨b, 2, none⟩ = some (.int .i64 s.2) := by
  obtain ⟨p, h⟩ := h
  exact h.c2
theorem RefL.new (l : List UInt8) (w : World) (t : TypeId) : RefL w.heap.size (ofL l) (l, 0) (w.alloc (.cells #[.string (ofL l), .int .i64 0, .int .i64 0] t)) :=
  ⟨0, cell_new _ _ _ _ _ rfl, cell_new _ _ _ _ _ rfl, cell_new _ _ _ _ _ rfl, fun j => free_new _ _ _ _ _ rfl, by simp, Nat.zero_le _, fun _ => by
    show ofL l = (ofL l).extract 0 (ofL l).size
    rw [extract_drop]
    rfl, fun h => absurd rfl h⟩
/-- what readers are alike in: a block of their own -/
structure Rder (b : Nat) (R : LSt → World → Prop) : Prop where
  lt : ∀ {s W}, R s W → b < W.heap.size
  on : ∀ {s W W'}, R s W → Below W.heap.size W W' → R s W'
  put : ∀ {s W} {g : Nat}, R s W → g ≠ b → ∀ j v, R s (W.setCell ⟨g, j, none⟩ v)
  gr : ∀ {s W W'} {row : Option Nat}, R s W → W.grownBy W' row → some b ≠ row → R s W'
theorem aside_cell {W : World} {g b : Nat} (h : g ≠ b) (j i : Nat) (v : Value) : (W.setCell ⟨g, j, none⟩ v).cell? ⟨b, i, none⟩ = W.cell? ⟨b, i, none⟩ :=
  World.cell?_setCell_other _ _ _ _ (by simp only [ne_eq, Addr.mk.injEq, not_and]; omega)
theorem grown_new {a w w' : World} {row row2 : Option Nat} (h : a.grownBy w row) (h2 : w.grownBy w' row2) (hn : ∀ k, row2 = some k → a.heap.size ≤ k) : a.grownBy w' row :=
  ⟨h2.os.trans h.os, h2.tape.trans h.tape, h2.output.trans h.output, Nat.le_trans h.size h2.size, fun k hk hne => (h2.block k (Nat.lt_of_lt_of_le hk h.size) (fun e => by have := hn k e.symm; omega)).trans (h.block k hk hne)⟩
theorem grown_far {a w : World} {row : Option Nat} (h : a.grownBy w row) {g : Nat} (hg : a.heap.size ≤ g) (j : Nat) (v : Value) : a.grownBy (w.setCell ⟨g, j, none⟩ v) row :=
  ⟨h.os, h.tape, h.output, by simpa [World.setCell] using h.size, fun i hi hne => (Below.heap_setCell w ⟨g, j, none⟩ v i (by intro e; have e2 : i = g := e; omega)).trans (h.block i hi hne)⟩
theorem grown_below {a w w' : World} {row : Option Nat} (h : a.grownBy w row) (hb : Below w.heap.size w w') : a.grownBy w' row :=
  h.trans ⟨hb.os, hb.tape, hb.output, hb.size, fun k hk _ => hb.block k hk⟩
/-- a box of one's own, of so many cells -/
structure BoxC (w : World) (c : Nat) (xs : List Value) (W : World) : Prop where
  cs : Cels W c xs
  s : Soft W c
  lt : c < W.heap.size
  ge : w.heap.size ≤ c
theorem BoxC.on {w W W' : World} {c : Nat} {xs : List Value} (h : BoxC w c xs W) (hb : Below W.heap.size W W') : BoxC w c xs W' := ⟨h.cs.on hb h.lt, h.s.on hb h.lt, Nat.lt_of_lt_of_le h.lt hb.size, h.ge⟩
theorem BoxC.grown {w W W' : World} {c b : Nat} {xs : List Value} (h : BoxC w c xs W) (hg : W.grownBy W' (some b)) (hne : c ≠ b) : BoxC w c xs W' :=
  ⟨h.cs.grown hg (fun e => hne (Option.some.inj e)), h.s.grown hg h.lt (fun e => hne (Option.some.inj e)), Nat.lt_of_lt_of_le h.lt hg.size, h.ge⟩
theorem BoxC.put {w W : World} {c : Nat} {xs : List Value} (h : BoxC w c xs W) (j : Nat) (v : Value) (hj : j < xs.length) : BoxC w c (xs.set j v) (W.setCell ⟨c, j, none⟩ v) :=
  ⟨h.cs.put j v hj, h.s.put _ _, by simpa [World.setCell] using h.lt, h.ge⟩
theorem BoxC.aside {w W : World} {c : Nat} {xs : List Value} (h : BoxC w c xs W) {g : Nat} (hg : g ≠ c) (j : Nat) (v : Value) : BoxC w c xs (W.setCell ⟨g, j, none⟩ v) :=
  ⟨h.cs.aside hg j v, h.s.put _ _, by simpa [World.setCell] using h.lt, h.ge⟩
theorem BoxC.new {w W : World} (hs : w.heap.size ≤ W.heap.size) (c : Array Value) (t : TypeId) : BoxC w W.heap.size c.toList (W.alloc (.cells c t)) := ⟨Cels.new _ _ _, Soft.new _ _ _, by simp, hs⟩
end Go.Proofs.YtecjngodfciokaaGreatDoor
end
section
namespace Go.Proofs.YtecjngodfciokaaGreatDoor
open Go.ChangeShapes Go.WideShapes Go.ChangeAt Go.RowKit
/-- while a pair is read: the reader, the answer's box, the pair's box -/
structure RdC (w : World) (b : Nat) (R : LSt → World → Prop) (s : LSt) (c : Nat) (xs : List Value) (p : Nat) (ys : List Value) (W : World) : Prop where
  ri : R s W
  rc : BoxC w c xs W
  rp : BoxC w p ys W
  cb : c ≠ b
  pb : p ≠ b
  cp : c ≠ p
  G : w.grownBy W (some b)
theorem RdC.step {w : World} {b : Nat} {R : LSt → World → Prop} {s s' : LSt} {c p : Nat} {xs ys : List Value} {W W' : World} (h : RdC w b R s c xs p ys W) (hi : R s' W') (hg : W.grownBy W' (some b)) : RdC w b R s' c xs p ys W' :=
  ⟨hi, h.rc.grown hg h.cb, h.rp.grown hg h.pb, h.cb, h.pb, h.cp, h.G.trans hg⟩
theorem RdC.putc {w : World} {b : Nat} {R : LSt → World → Prop} (hR : Rder b R) {s : LSt} {c p : Nat} {xs ys : List Value} {W : World} (h : RdC w b R s c xs p ys W) (j : Nat) (v : Value) (hj : j < xs.length) : RdC w b R s c (xs.set j v) p ys (W.setCell ⟨c, j, none⟩ v) :=
  ⟨hR.put h.ri h.cb j v, h.rc.put j v hj, h.rp.aside h.cp j v, h.cb, h.pb, h.cp, grown_far h.G h.rc.ge j v⟩
/-- the answer is laid into its box -/
theorem RdC.last {w : World} {b : Nat} {R : LSt → World → Prop} (hR : Rder b R) {s : LSt} {c p : Nat} {xs ys : List Value} {W : World} (h : RdC w b R s c xs p ys W) (hx : xs.length = 4) (v0 v1 v2 v3 : Value) :
    ∃ W', W' = (((W.setCell ⟨c, 0, none⟩ v0).setCell ⟨c, 1, none⟩ v1).setCell ⟨c, 2, none⟩ v2).setCell ⟨c, 3, none⟩ v3 ∧ R s W' ∧ w.grownBy W' (some b) ∧ W'.cell? ⟨c, 0, none⟩ = some v0 ∧ W'.cell? ⟨c, 1, none⟩ = some v1 ∧ W'.cell? ⟨c, 2, none⟩ = some v2 ∧ W'.cell? ⟨c, 3, none⟩ = some v3 := by
  match xs, hx with
  | [x0, x1, x2, x3], _ =>
    have h1 := (((h.putc hR 0 v0 (by simp)).putc hR 1 v1 (by simp)).putc hR 2 v2 (by simp)).putc hR 3 v3 (by simp)
    exact ⟨_, rfl, h1.ri, h1.G, h1.rc.cs 0 _ rfl, h1.rc.cs 1 _ rfl, h1.rc.cs 2 _ rfl, h1.rc.cs 3 _ rfl⟩
theorem w8 (r : List UInt8) : IntKind.u8.wrap ((Oct.val (lOut r 1) : Nat) : Int) = ((Oct.val (lOut r 1) : Nat) : Int) := by
  have := val_out_lt r 1
  rw [show (256 : Nat) ^ 1 = 256 from rfl] at this
  rw [show IntKind.u8.wrap ((Oct.val (lOut r 1) : Nat) : Int) = ((Oct.val (lOut r 1) : Nat) : Int) % 256 from rfl]
  omega
end Go.Proofs.YtecjngodfciokaaGreatDoor
end
section
namespace Go.Proofs.YtecjngodfciokaaGreatDoor
open Go.ChangeShapes Go.WideShapes Go.ChangeAt Go.RowKit
/-- while a head is read: the reader, the pairs so far in a row of one's own -/
structure RdL (w : World) (b : Nat) (R : LSt → World → Prop) (s : LSt) (v : Value) (h : List Hd.Pr) (W : World) : Prop where
  ri : R s W
  own : W.ownsRow w.heap.size 87 4 v h.length (prs h)
  G : w.grownBy W (some b)
  bw : b < w.heap.size
theorem RdL.step {w : World} {b : Nat} {R : LSt → World → Prop} {s s' : LSt} {v : Value} {h : List Hd.Pr} {W W' : World} (H : RdL w b R s v h W) (hi : R s' W') (hg : W.grownBy W' (some b)) : RdL w b R s' v h W' :=
  ⟨hi, H.own.kept hg (Rw.own_ne H.own H.bw), H.G.trans hg, H.bw⟩
theorem RdL.on {w : World} {b : Nat} {R : LSt → World → Prop} (hR : Rder b R) {s : LSt} {v : Value} {h : List Hd.Pr} {W W' : World} (H : RdL w b R s v h W) (hb : Below W.heap.size W W') : RdL w b R s v h W' :=
  ⟨hR.on H.ri hb, Rw.own_on H.own hb, grown_below H.G hb, H.bw⟩
theorem RdL.start {w : World} {b : Nat} {R : LSt → World → Prop} {s : LSt} {W : World} (hi : R s W) (hg : w.grownBy W (some b)) (hb : b < w.heap.size) : RdL w b R s (.slice none 0 0) [] W :=
  ⟨hi, World.ownsRow_nil _ _ _ _, hg, hb⟩
theorem RdL.push {w : World} {b : Nat} {R : LSt → World → Prop} (hR : Rder b R) {s : LSt} {v v' : Value} {h : List Hd.Pr} {x : Hd.Pr} {W W' : World} (H : RdL w b R s v h W) (hg : W.grownBy W' v.ownBlock) (ho : W'.ownsRow w.heap.size 87 4 v' (h ++ [x]).length (prs (h ++ [x]))) : RdL w b R s v' (h ++ [x]) W' :=
  ⟨hR.gr H.ri hg (fun e => by have := (H.own.lt b e.symm).1; have := H.bw; omega), ho, grown_new H.G hg (fun k hk => (H.own.lt k hk).1), H.bw⟩
theorem RdL.row {w : World} {b : Nat} {R : LSt → World → Prop} {s : LSt} {v : Value} {h : List Hd.Pr} {W : World} (H : RdL w b R s v h W) : ∃ A c, v = .slice A h.length c ∧ h.length ≤ c ∧ Prs W A h ∧ ∀ a, A = some a → w.heap.size ≤ a.block := by
  obtain ⟨A, c, e, hc, -, hP⟩ := rown_prs H.own
  refine ⟨A, c, e, hc, hP, fun a ha => (H.own.lt a.block ?_).1⟩
  rw [e, ha]; rfl
theorem Prs.grown {w w' : World} {A : Option Addr} {l : List Hd.Pr} {row : Option Nat} (h : Prs w A l) (hg : w.grownBy w' row) (hne : ∀ a, A = some a → some a.block ≠ row) : Prs w' A l := ⟨fun i hi => by
  obtain ⟨b, off, hA, hlt, hat⟩ := h.at_ i hi
  have hb := hne _ hA
  exact ⟨b, off, hA, Nat.lt_of_lt_of_le hlt hg.size, hg.cell hat.c0 hb, hg.cell hat.c1 hb, hg.cell hat.c2 hb, hg.cell hat.c3 hb⟩⟩
end Go.Proofs.YtecjngodfciokaaGreatDoor
end
