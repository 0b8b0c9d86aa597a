/-
  OCTET's LAST CALLS, walked: the error of what is written; the end of what is read. THE DOCUMENT's OWN READER, walked: it answers, and leaves, what the program's reader does. READERS over lists of bytes: the program's Fail, the document's reader; what they are alike in.
-/
import Derived.Test.YtnjlhafhgfpfiaaGreatDoorRb03
import Derived.Test.YtnjlhafhgfpfiaaGreatDoorRb07

section
namespace Go.Proofs.YtnjlhafhgfpfiaaGreatDoor
open Go.ChangeShapes Go.WideShapes Go.ChangeAt Go.RowKit
def endOf (r : ByteArray) (e : Int) : Int := if 0 < r.size then 4 else e
set_option maxHeartbeats 400000 in
theorem end_any (b : Nat) (r : ByteArray) (e : Int) (w : World) (h : InAt b r e w) :
    Calls Tryz.prog 34 #[.pointer (some ⟨b, 0, none⟩)] w fun x w' => x = .returned (.int .i64 (endOf r e)) ∧ w = w' := by
  have HL := Lib.hid (left_any b r e w h)
  have HE := Lib.hid (err_any b r e w h)
  clear h
  by_cases h0 : 0 < r.size
  · have HO : Hid (endOf r e = 4) := by unfold endOf; rw [if_pos h0]; exact (rfl : _ = _)
    go_enter Tryz.func34, Tryz.ntmps34
    go_wp2_with (go_at_call 54; refine HL.out.mono ?_; rintro x w' ⟨rfl, rfl⟩)
    go_ret
    exact ⟨ret_int (by rw [HO.out]), rfl⟩
  · have HO : Hid (endOf r e = e) := by unfold endOf; rw [if_neg h0]; exact (rfl : _ = _)
    go_enter Tryz.func34, Tryz.ntmps34
    go_wp2_with (first | (go_at_call 54; refine HL.out.mono ?_; rintro x w' ⟨rfl, rfl⟩) | (go_at_call 55; refine HE.out.mono ?_; rintro x w' ⟨rfl, rfl⟩))
    go_ret
    exact ⟨ret_int (by rw [HO.out]), rfl⟩
theorem iend_l (b : Nat) (s : LSt) (w : World) (h : InL b s w) :
    Calls Tryz.prog 34 #[.pointer (some ⟨b, 0, none⟩)] w fun x w' => x = .returned (.int .i64 (lEnd s)) ∧ w = w' := by
  have := end_any b (ofL s.1) s.2 w h
  have e : endOf (ofL s.1) s.2 = lEnd s := by unfold endOf lEnd; rw [ofL_size]
  rw [e] at this
  exact this
end Go.Proofs.YtnjlhafhgfpfiaaGreatDoor
end
section
namespace Go.Proofs.YtnjlhafhgfpfiaaGreatDoor
open Go.ChangeShapes Go.WideShapes Go.ChangeAt Go.RowKit
/-- the document's reader lies in block b: its text, its place, its error; beside what a reader has by then -/
structure RefAt (b : Nat) (s : ByteArray) (p : Nat) (st : St) (w : World) : Prop where
  c0 : w.cell? ⟨b, 0, none⟩ = some (.string s)
  c1 : w.cell? ⟨b, 1, none⟩ = some (.int .i64 (p : Int))
  c2 : w.cell? ⟨b, 2, none⟩ = some (.int .i64 st.2)
  fr : ∀ j, w.frozen? ⟨b, j, none⟩ = false
  lt : b < w.heap.size
  le : p ≤ s.size
  rest : st.2 = 0 → st.1 = s.extract p s.size
  ok : st.ok
def RefIs (b : Nat) (s : ByteArray) (st : St) (w : World) : Prop := ∃ p, RefAt b s p st w
theorem RefAt.code {b : Nat} {s : ByteArray} {p : Nat} {st : St} {w : World} (h : RefAt b s p st w) (c : Int) (hc : c ≠ 0) : RefAt b s p (ByteArray.empty, c) (w.setCell ⟨b, 2, none⟩ (.int .i64 c)) :=
  ⟨(World.cell?_setCell_other _ _ _ _ (ne_cell b 2 0 (by decide))).trans h.c0, (World.cell?_setCell_other _ _ _ _ (ne_cell b 2 1 (by decide))).trans h.c1, World.cell?_setCell_same _ _ _ h.c2,
    fun j => by rw [World.frozen?_setCell]; exact h.fr j, by have := h.lt; simp [World.setCell]; exact this, h.le, fun h0 => absurd h0 hc, fun _ => rfl⟩
theorem RefAt.drewN {b : Nat} {s : ByteArray} {p : Nat} {st : St} {w : World} (h : RefAt b s p st w) (n : Nat) : RefAt b s p st (w.drewN n) := ⟨h.c0, h.c1, h.c2, h.fr, h.lt, h.le, h.rest, h.ok⟩
theorem RefAt.move {b : Nat} {s : ByteArray} {p : Nat} {st : St} {w : World} (h : RefAt b s p st w) (m : Nat) (hm : p + m ≤ s.size) (h0 : st.2 = 0) : RefAt b s (p + m) (s.extract (p + m) s.size, 0) (w.setCell ⟨b, 1, none⟩ (.int .i64 ((p : Int) + m))) :=
  ⟨(World.cell?_setCell_other _ _ _ _ (ne_cell b 1 0 (by decide))).trans h.c0, (World.cell?_setCell_same _ _ _ h.c1).trans (by rw [Int.natCast_add]), (World.cell?_setCell_other _ _ _ _ (ne_cell b 1 2 (by decide))).trans (h.c2.trans (by rw [h0])),
    fun j => by rw [World.frozen?_setCell]; exact h.fr j, by have := h.lt; simp [World.setCell]; exact this, hm, fun _ => rfl, fun h => absurd rfl h⟩
theorem RefAt.size {b : Nat} {s : ByteArray} {p : Nat} {st : St} {w : World} (h : RefAt b s p st w) (h0 : st.2 = 0) : (st.1.size : Int) = (s.size : Int) - p := by
  rw [h.rest h0, ByteArray.size_extract]
  have := h.le
  omega

end Go.Proofs.YtnjlhafhgfpfiaaGreatDoor
end
section
namespace Go.Proofs.YtnjlhafhgfpfiaaGreatDoor
open Go.ChangeShapes Go.WideShapes Go.ChangeAt Go.RowKit
theorem failRest_l (r : List UInt8) (e c : Int) : failRest (ofL r) e c = ofL (lFail (r, e) c).1 := congrArg Prod.fst (sFail_l r e c)
theorem failErr_l (r : List UInt8) (e c : Int) : failErr e c = (lFail (r, e) c).2 := congrArg Prod.snd (sFail_l r e c)
theorem ifail_l (b : Nat) (s : LSt) (c : Int) (w : World) (h : InL b s w) :
    Calls Tryz.prog 73 #[.pointer (some ⟨b, 0, none⟩), .int .i64 c] w (PostL b w (.tuple #[]) (lFail s c)) := by
  obtain ⟨r, e⟩ := s
  refine (fail_any b (ofL r) e c w h).mono ?_
  rintro x w' ⟨hx, h1, h2⟩
  rw [failRest_l r e c, failErr_l r e c] at h1
  exact ⟨hx, h1, h2⟩
/-- the document's reader, of bytes S -/
def RefL (b : Nat) (S : ByteArray) (s : LSt) (w : World) : Prop := RefIs b S (ofL s.1, s.2) w
theorem RefL.code {b : Nat} {S : ByteArray} {s : LSt} {w : World} (h : RefL b S s w) : w.cell? ⟨b, 2, none⟩ = some (.int .i64 s.2) := by
  obtain ⟨p, h⟩ := h
  exact h.c2
theorem RefL.new (l : List UInt8) (w : World) (t : TypeId) : RefL w.heap.size (ofL l) (l, 0) (w.alloc (.cells #[.string (ofL l), .int .i64 0, .int .i64 0] t)) :=
  ⟨0, cell_new _ _ _ _ _ rfl, cell_new _ _ _ _ _ rfl, cell_new _ _ _ _ _ rfl, fun j => free_new _ _ _ _ _ rfl, by simp, Nat.zero_le _, fun _ => by
    show ofL l = (ofL l).extract 0 (ofL l).size
    rw [extract_drop]
    rfl, fun h => absurd rfl h⟩
/-- what readers are alike in: a block of their own -/
structure Rder (b : Nat) (R : LSt → World → Prop) : Prop where
  lt : ∀ {s W}, R s W → b < W.heap.size
  on : ∀ {s W W'}, R s W → Below W.heap.size W W' → R s W'
  put : ∀ {s W} {g : Nat}, R s W → g ≠ b → ∀ j v, R s (W.setCell ⟨g, j, none⟩ v)
  gr : ∀ {s W W'} {row : Option Nat}, R s W → W.grownBy W' row → some b ≠ row → R s W'
theorem aside_cell {W : World} {g b : Nat} (h : g ≠ b) (j i : Nat) (v : Value) : (W.setCell ⟨g, j, none⟩ v).cell? ⟨b, i, none⟩ = W.cell? ⟨b, i, none⟩ :=
  World.cell?_setCell_other _ _ _ _ (by simp only [ne_eq, Addr.mk.injEq, not_and]; omega)
theorem rdr_in (b : Nat) : Rder b (InL b) :=
  ⟨fun h => h.lt, fun h hb => ⟨(hb.cell (p := ⟨b, 0, none⟩) h.lt).trans h.c0, (hb.cell (p := ⟨b, 1, none⟩) h.lt).trans h.c1, fun j => (hb.frozen (p := ⟨b, j, none⟩) h.lt).trans (h.fr j), Nat.lt_of_lt_of_le h.lt hb.size⟩,
   fun h hg j v => ⟨(aside_cell hg _ _ _).trans h.c0, (aside_cell hg _ _ _).trans h.c1, fun i => (World.frozen?_setCell _ _ _ _).trans (h.fr i), by simpa [World.setCell] using h.lt⟩,
   fun h hg hne => ⟨hg.cell h.c0 hne, hg.cell h.c1 hne, fun j => (World.grownBy.frozen_far hg ⟨b, j, none⟩ h.lt hne).trans (h.fr j), Nat.lt_of_lt_of_le h.lt hg.size⟩⟩
theorem grown_new {a w w' : World} {row row2 : Option Nat} (h : a.grownBy w row) (h2 : w.grownBy w' row2) (hn : ∀ k, row2 = some k → a.heap.size ≤ k) : a.grownBy w' row :=
  ⟨h2.os.trans h.os, h2.tape.trans h.tape, h2.output.trans h.output, Nat.le_trans h.size h2.size, fun k hk hne => (h2.block k (Nat.lt_of_lt_of_le hk h.size) (fun e => by have := hn k e.symm; omega)).trans (h.block k hk hne)⟩
theorem grown_far {a w : World} {row : Option Nat} (h : a.grownBy w row) {g : Nat} (hg : a.heap.size ≤ g) (j : Nat) (v : Value) : a.grownBy (w.setCell ⟨g, j, none⟩ v) row :=
  ⟨h.os, h.tape, h.output, by simpa [World.setCell] using h.size, fun i hi hne => (Below.heap_setCell w ⟨g, j, none⟩ v i (by intro e; have e2 : i = g := e; omega)).trans (h.block i hi hne)⟩
theorem grown_below {a w w' : World} {row : Option Nat} (h : a.grownBy w row) (hb : Below w.heap.size w w') : a.grownBy w' row :=
  h.trans ⟨hb.os, hb.tape, hb.output, hb.size, fun k hk _ => hb.block k hk⟩
/-- a box of one's own, of so many cells -/
structure BoxC (w : World) (c : Nat) (xs : List Value) (W : World) : Prop where
  cs : Cels W c xs
  s : Soft W c
  lt : c < W.heap.size
  ge : w.heap.size ≤ c
theorem BoxC.on {w W W' : World} {c : Nat} {xs : List Value} (h : BoxC w c xs W) (hb : Below W.heap.size W W') : BoxC w c xs W' := ⟨h.cs.on hb h.lt, h.s.on hb h.lt, Nat.lt_of_lt_of_le h.lt hb.size, h.ge⟩
theorem BoxC.grown {w W W' : World} {c b : Nat} {xs : List Value} (h : BoxC w c xs W) (hg : W.grownBy W' (some b)) (hne : c ≠ b) : BoxC w c xs W' :=
  ⟨h.cs.grown hg (fun e => hne (Option.some.inj e)), h.s.grown hg h.lt (fun e => hne (Option.some.inj e)), Nat.lt_of_lt_of_le h.lt hg.size, h.ge⟩
theorem BoxC.put {w W : World} {c : Nat} {xs : List Value} (h : BoxC w c xs W) (j : Nat) (v : Value) (hj : j < xs.length) : BoxC w c (xs.set j v) (W.setCell ⟨c, j, none⟩ v) :=
  ⟨h.cs.put j v hj, h.s.put _ _, by simpa [World.setCell] using h.lt, h.ge⟩
theorem BoxC.aside {w W : World} {c : Nat} {xs : List Value} (h : BoxC w c xs W) {g : Nat} (hg : g ≠ c) (j : Nat) (v : Value) : BoxC w c xs (W.setCell ⟨g, j, none⟩ v) :=
  ⟨h.cs.aside hg j v, h.s.put _ _, by simpa [World.setCell] using h.lt, h.ge⟩
theorem BoxC.new {w W : World} (hs : w.heap.size ≤ W.heap.size) (c : Array Value) (t : TypeId) : BoxC w W.heap.size c.toList (W.alloc (.cells c t)) := ⟨Cels.new _ _ _, Soft.new _ _ _, by simp, hs⟩
end Go.Proofs.YtnjlhafhgfpfiaaGreatDoor
end
