/-
  READERS over lists of bytes: the program's Fail, the document's reader; what they are alike in.
-/
import Derived.Test.YtjkaljokkpabfaaGreatDoorRr11
import Derived.Test.YtjkaljokkpabfaaGreatDoorRr21

section
namespace Go.Proofs.YtjkaljokkpabfaaGreatDoor
open Go.ChangeShapes Go.WideShapes Go.ChangeAt Go.RowKit
theorem failRest_l (r : List UInt8) (e c : Int) : failRest (ofL r) e c = ofL (lFail (r, e) c).1 := congrArg Prod.fst (sFail_l r e c)
theorem failErr_l (r : List UInt8) (e c : Int) : failErr e c = (lFail (r, e) c).2 := congrArg Prod.snd (sFail_l r e c)
theorem ifail_l (b : Nat) (s : LSt) (c : Int) (w : World) (h : InL b s w) :
    Calls Tryz.prog 19 #[.pointer (some ⟨b, 0, none⟩), .int .i64 c] w (PostL b w (.tuple #[]) (lFail s c)) := by
  obtain ⟨r, e⟩ := s
  refine (fail_any b (ofL r) e c w h).mono ?_
  rintro x w' ⟨hx, h1, h2⟩
  rw [failRest_l r e c, failErr_l r e c] at h1
  exact ⟨hx, h1, h2⟩
/-- the document's reader, of bytes S -/
def RefL (b : Nat) (S : ByteArray) (s : LSt) (w : World) : Prop := RefIs b S (ofL s.1, s.2) w
def RPostL (b : Nat) (S : ByteArray) (w : World) (v : Value) (s : LSt) (x : Ending) (w' : World) : Prop := x = .returned v ∧ RefL b S s w' ∧ w.grownBy w' (some b)
theorem rinum_l (b : Nat) (S : ByteArray) (s : LSt) (k : Nat) (n : Int) (w : World) (hk : k ≤ 8) (hn : n = (k : Int)) (h : RefL b S s w) (hS : S.size ≤ 1000000) :
    Calls Tryz.prog 21 #[.pointer (some ⟨b, 0, none⟩), .int .i64 n] w (RPostL b S w (.int .u64 ((Oct.val (lOut s.1 k) : Nat) : Int)) (lRaw s k)) := by
  subst hn
  obtain ⟨r, e⟩ := s
  refine (rnumber_any b S (ofL r, e) (k : Int) w h hS).mono ?_
  rintro x w' ⟨hx, h1, h2⟩
  rw [Oct.width_num k hk] at hx h1
  rw [rawOut_l] at hx
  rw [sRaw_l] at h1
  exact ⟨hx, h1, h2⟩
theorem ritext_l (b : Nat) (S : ByteArray) (s : LSt) (m : Int) (w : World) (h : RefL b S s w) (hS : S.size ≤ 1000000) :
    Calls Tryz.prog 40 #[.pointer (some ⟨b, 0, none⟩), .int .i64 m] w (RPostL b S w (.string (ofL (lTextOut s m))) (lText s m)) := by
  obtain ⟨r, e⟩ := s
  refine (rtextIn_any b S (ofL r, e) m w h hS).mono ?_
  rintro x w' ⟨hx, h1, h2⟩
  rw [oText_l] at hx
  rw [sText_l] at h1
  exact ⟨hx, h1, h2⟩
theorem rifail_l (b : Nat) (S : ByteArray) (s : LSt) (c : Int) (w : World) (h : RefL b S s w) :
    Calls Tryz.prog 22 #[.pointer (some ⟨b, 0, none⟩), .int .i64 c] w (RPostL b S w (.tuple #[]) (lFail s c)) := by
  obtain ⟨r, e⟩ := s
  refine (rfail_any b S (ofL r, e) c w h).mono ?_
  rintro x w' ⟨hx, h1, h2⟩
  rw [sFail_l] at h1
  exact ⟨hx, h1, h2⟩
theorem rileft_l (b : Nat) (S : ByteArray) (s : LSt) (w : World) (h : RefL b S s w) (hS : S.size ≤ 1000000) :
    Calls Tryz.prog 11 #[.pointer (some ⟨b, 0, none⟩)] w (Quiet w (.int .i64 (s.1.length : Int))) := by
  have := rleft_any b S (ofL s.1, s.2) w h hS
  rw [ofL_size] at this
  exact this
theorem RefL.code {b : Nat} {S : ByteArray} {s : LSt} {w : World} (h : RefL b S s w) : w.cell? ⟨b, 2, none⟩ = some (.int .i64 s.2) := by
  obtain ⟨p, h⟩ := h
  exact h.c2
theorem RefL.new (l : List UInt8) (w : World) (t : TypeId) : RefL w.heap.size (ofL l) (l, 0) (w.alloc (.cells #[.string (ofL l), .int .i64 0, .int .i64 0] t)) :=
  ⟨0, cell_new _ _ _ _ _ rfl, cell_new _ _ _ _ _ rfl, cell_new _ _ _ _ _ rfl, fun j => free_new _ _ _ _ _ rfl, by simp, Nat.zero_le _, fun _ => by
    show ofL l = (ofL l).extract 0 (ofL l).size
    rw [extract_drop]
    rfl, fun h => absurd rfl h⟩
/-- what readers are alike in: a block of their own -/
structure Rder (b : Nat) (R : LSt → World → Prop) : Prop where
  lt : ∀ {s W}, R s W → b < W.heap.size
  on : ∀ {s W W'}, R s W → Below W.heap.size W W' → R s W'
  put : ∀ {s W} {g : Nat}, R s W → g ≠ b → ∀ j v, R s (W.setCell ⟨g, j, none⟩ v)
  gr : ∀ {s W W'} {row : Option Nat}, R s W → W.grownBy W' row → some b ≠ row → R s W'
theorem aside_cell {W : World} {g b : Nat} (h : g ≠ b) (j i : Nat) (v : Value) : (W.setCell ⟨g, j, none⟩ v).cell? ⟨b, i, none⟩ = W.cell? ⟨b, i, none⟩ :=
  World.cell?_setCell_other _ _ _ _ (by simp only [ne_eq, Addr.mk.injEq, not_and]; omega)
theorem rdr_in (b : Nat) : Rder b (InL b) :=
  ⟨fun h => h.lt, fun h hb => ⟨(hb.cell (p := ⟨b, 0, none⟩) h.lt).trans h.c0, (hb.cell (p := ⟨b, 1, none⟩) h.lt).trans h.c1, fun j => (hb.frozen (p := ⟨b, j, none⟩) h.lt).trans (h.fr j), Nat.lt_of_lt_of_le h.lt hb.size⟩,
   fun h hg j v => ⟨(aside_cell hg _ _ _).trans h.c0, (aside_cell hg _ _ _).trans h.c1, fun i => (World.frozen?_setCell _ _ _ _).trans (h.fr i), by simpa [World.setCell] using h.lt⟩,
   fun h hg hne => ⟨hg.cell h.c0 hne, hg.cell h.c1 hne, fun j => (World.grownBy.frozen_far hg ⟨b, j, none⟩ h.lt hne).trans (h.fr j), Nat.lt_of_lt_of_le h.lt hg.size⟩⟩
theorem rdr_ref (b : Nat) (S : ByteArray) : Rder b (RefL b S) :=
  ⟨fun h => by obtain ⟨p, h⟩ := h; exact h.lt, fun h hb => by
    obtain ⟨p, h⟩ := h
    exact ⟨p, (hb.cell (p := ⟨b, 0, none⟩) h.lt).trans h.c0, (hb.cell (p := ⟨b, 1, none⟩) h.lt).trans h.c1, (hb.cell (p := ⟨b, 2, none⟩) h.lt).trans h.c2, fun j => (hb.frozen (p := ⟨b, j, none⟩) h.lt).trans (h.fr j), Nat.lt_of_lt_of_le h.lt hb.size, h.le, h.rest, h.ok⟩,
   fun h hg j v => by
    obtain ⟨p, h⟩ := h
    exact ⟨p, (aside_cell hg _ _ _).trans h.c0, (aside_cell hg _ _ _).trans h.c1, (aside_cell hg _ _ _).trans h.c2, fun i => (World.frozen?_setCell _ _ _ _).trans (h.fr i), by simpa [World.setCell] using h.lt, h.le, h.rest, h.ok⟩,
   fun h hg hne => by
    obtain ⟨p, h⟩ := h
    exact ⟨p, hg.cell h.c0 hne, hg.cell h.c1 hne, hg.cell h.c2 hne, fun j => (World.grownBy.frozen_far hg ⟨b, j, none⟩ h.lt hne).trans (h.fr j), Nat.lt_of_lt_of_le h.lt hg.size, h.le, h.rest, h.ok⟩⟩
theorem grown_new {a w w' : World} {row row2 : Option Nat} (h : a.grownBy w row) (h2 : w.grownBy w' row2) (hn : ∀ k, row2 = some k → a.heap.size ≤ k) : a.grownBy w' row :=
  ⟨h2.os.trans h.os, h2.tape.trans h.tape, h2.output.trans h.output, Nat.le_trans h.size h2.size, fun k hk hne => (h2.block k (Nat.lt_of_lt_of_le hk h.size) (fun e => by have := hn k e.symm; omega)).trans (h.block k hk hne)⟩
theorem grown_far {a w : World} {row : Option Nat} (h : a.grownBy w row) {g : Nat} (hg : a.heap.size ≤ g) (j : Nat) (v : Value) : a.grownBy (w.setCell ⟨g, j, none⟩ v) row :=
  ⟨h.os, h.tape, h.output, by simpa [World.setCell] using h.size, fun i hi hne => (Below.heap_setCell w ⟨g, j, none⟩ v i (by intro e; have e2 : i = g := e; omega)).trans (h.block i hi hne)⟩
theorem grown_below {a w w' : World} {row : Option Nat} (h : a.grownBy w row) (hb : Below w.heap.size w w') : a.grownBy w' row :=
  h.trans ⟨hb.os, hb.tape, hb.output, hb.size, fun k hk _ => hb.block k hk⟩
/-- a box of one's own, of so many cells -/
structure BoxC (w : World) (c : Nat) (xs : List Value) (W : World) : Prop where
  cs : Cels W c xs
  s : Soft W c
  lt : c < W.heap.size
  ge : w.heap.size ≤ c
theorem BoxC.on {w W W' : World} {c : Nat} {xs : List Value} (h : BoxC w c xs W) (hb : Below W.heap.size W W') : BoxC w c xs W' := ⟨h.cs.on hb h.lt, h.s.on hb h.lt, Nat.lt_of_lt_of_le h.lt hb.size, h.ge⟩
theorem BoxC.grown {w W W' : World} {c b : Nat} {xs : List Value} (h : BoxC w c xs W) (hg : W.grownBy W' (some b)) (hne : c ≠ b) : BoxC w c xs W' :=
  ⟨h.cs.grown hg (fun e => hne (Option.some.inj e)), h.s.grown hg h.lt (fun e => hne (Option.some.inj e)), Nat.lt_of_lt_of_le h.lt hg.size, h.ge⟩
theorem BoxC.put {w W : World} {c : Nat} {xs : List Value} (h : BoxC w c xs W) (j : Nat) (v : Value) (hj : j < xs.length) : BoxC w c (xs.set j v) (W.setCell ⟨c, j, none⟩ v) :=
  ⟨h.cs.put j v hj, h.s.put _ _, by simpa [World.setCell] using h.lt, h.ge⟩
theorem BoxC.aside {w W : World} {c : Nat} {xs : List Value} (h : BoxC w c xs W) {g : Nat} (hg : g ≠ c) (j : Nat) (v : Value) : BoxC w c xs (W.setCell ⟨g, j, none⟩ v) :=
  ⟨h.cs.aside hg j v, h.s.put _ _, by simpa [World.setCell] using h.lt, h.ge⟩
theorem BoxC.new {w W : World} (hs : w.heap.size ≤ W.heap.size) (c : Array Value) (t : TypeId) : BoxC w W.heap.size c.toList (W.alloc (.cells c t)) := ⟨Cels.new _ _ _, Soft.new _ _ _, by simp, hs⟩
end Go.Proofs.YtjkaljokkpabfaaGreatDoor
end
