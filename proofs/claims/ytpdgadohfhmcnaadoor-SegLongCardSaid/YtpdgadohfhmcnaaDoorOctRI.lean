/-
  THE DOCUMENT's OWN READER, walked: it answers, and leaves, what the program's reader does.
-/
import Derived.Test.YtpdgadohfhmcnaaDoorOct4
namespace Go.Proofs.YtpdgadohfhmcnaaDoor
open Go.ChangeShapes Go.WideShapes Go.ChangeAt Go.RowKit
/-- the document's reader lies in block b: its text, its place, its error; beside what a reader has by then -/
structure RefAt (b : Nat) (s : ByteArray) (p : Nat) (st : St) (w : World) : Prop where
  c0 : w.cell? ⟨b, 0, none⟩ = some (.string s)
  c1 : w.cell? ⟨b, 1, none⟩ = some (.int .i64 (p : Int))
  c2 : w.cell? ⟨b, 2, none⟩ = some (.int .i64 st.2)
  fr : ∀ j, w.frozen? ⟨b, j, none⟩ = false
  lt : b < w.heap.size
  le : p ≤ s.size
  rest : st.2 = 0 → st.1 = s.extract p s.size
  ok : st.ok
def RefIs (b : Nat) (s : ByteArray) (st : St) (w : World) : Prop := ∃ p, RefAt b s p st w
def RPost (b : Nat) (s : ByteArray) (w : World) (v : Value) (st : St) (x : Ending) (w' : World) : Prop := x = .returned v ∧ RefIs b s st w' ∧ w.grownBy w' (some b)

theorem RefAt.code {b : Nat} {s : ByteArray} {p : Nat} {st : St} {w : World} (h : RefAt b s p st w) (c : Int) (hc : c ≠ 0) : RefAt b s p (ByteArray.empty, c) (w.setCell ⟨b, 2, none⟩ (.int .i64 c)) :=
  ⟨(World.cell?_setCell_other _ _ _ _ (ne_cell b 2 0 (by decide))).trans h.c0, (World.cell?_setCell_other _ _ _ _ (ne_cell b 2 1 (by decide))).trans h.c1, World.cell?_setCell_same _ _ _ h.c2,
    fun j => by rw [World.frozen?_setCell]; exact h.fr j, by have := h.lt; simp [World.setCell]; exact this, h.le, fun h0 => absurd h0 hc, fun _ => rfl⟩
theorem RefAt.drewN {b : Nat} {s : ByteArray} {p : Nat} {st : St} {w : World} (h : RefAt b s p st w) (n : Nat) : RefAt b s p st (w.drewN n) := ⟨h.c0, h.c1, h.c2, h.fr, h.lt, h.le, h.rest, h.ok⟩
theorem only_drewN {a w : World} {row : Option Nat} (h : a.grownBy w row) (n : Nat) : a.grownBy (w.drewN n) row := ⟨h.os, h.tape, h.output, h.size, h.block⟩
theorem RefAt.move {b : Nat} {s : ByteArray} {p : Nat} {st : St} {w : World} (h : RefAt b s p st w) (m : Nat) (hm : p + m ≤ s.size) (h0 : st.2 = 0) : RefAt b s (p + m) (s.extract (p + m) s.size, 0) (w.setCell ⟨b, 1, none⟩ (.int .i64 ((p : Int) + m))) :=
  ⟨(World.cell?_setCell_other _ _ _ _ (ne_cell b 1 0 (by decide))).trans h.c0, (World.cell?_setCell_same _ _ _ h.c1).trans (by rw [Int.natCast_add]), (World.cell?_setCell_other _ _ _ _ (ne_cell b 1 2 (by decide))).trans (h.c2.trans (by rw [h0])),
    fun j => by rw [World.frozen?_setCell]; exact h.fr j, by have := h.lt; simp [World.setCell]; exact this, hm, fun _ => rfl, fun h => absurd rfl h⟩
theorem sFail_keep {st : St} {c : Int} (h : c = 0 ∨ st.2 ≠ 0) : sFail st c = st := by
  unfold sFail failRest failErr
  rw [if_pos h, if_pos h]
theorem sFail_set {st : St} {c : Int} (h : c ≠ 0) (h0 : st.2 = 0) : sFail st c = (ByteArray.empty, c) := by
  unfold sFail failRest failErr
  rw [if_neg (by omega), if_neg (by omega)]

theorem sRaw_stop {st : St} {n : Int} (hok : st.ok) (h : st.2 ≠ 0 ∨ n ≤ 0) : rawOut st.1 n = ByteArray.empty ∧ sRaw st n = st := by
  by_cases hn : n ≤ 0
  · refine ⟨by unfold rawOut; rw [if_pos hn], ?_⟩
    unfold sRaw rawRest rawErr
    rw [if_pos hn, if_neg (by omega)]
  · have he : st.2 ≠ 0 := by omega
    have hr := hok he
    have hs : (st.1.size : Int) < n := by rw [hr]; simp; omega
    refine ⟨by unfold rawOut; rw [if_neg hn, if_pos hs], ?_⟩
    unfold sRaw rawRest rawErr
    rw [if_neg hn, if_pos hs, if_neg (by omega), ← hr]
theorem sRaw_short {st : St} {n : Int} (h0 : st.2 = 0) (hn : 0 < n) (hs : (st.1.size : Int) < n) : rawOut st.1 n = ByteArray.empty ∧ sRaw st n = sFail st 3 := by
  refine ⟨by unfold rawOut; rw [if_neg (by omega), if_pos hs], ?_⟩
  rw [sFail_set (by decide) h0]
  unfold sRaw rawRest rawErr
  rw [if_neg (by omega), if_pos hs, if_pos ⟨hn, hs, h0⟩]
theorem sRaw_ok {st : St} {s : ByteArray} {p : Nat} {n : Int} (h0 : st.2 = 0) (hn : 0 < n) (hp : p ≤ s.size) (hr : st.1 = s.extract p s.size) (hs : n ≤ (s.size : Int) - p) :
    rawOut st.1 n = s.extract p (p + n.toNat) ∧ sRaw st n = (s.extract (p + n.toNat) s.size, 0) := by
  have hz : st.1.size = s.size - p := by rw [hr, ByteArray.size_extract]; omega
  refine ⟨?_, ?_⟩
  · unfold rawOut
    rw [if_neg (by omega), if_neg (by omega), hr, ByteArray.extract_extract]
    congr 1
    omega
  · unfold sRaw rawRest rawErr
    rw [if_neg (by omega), if_neg (by omega), if_neg (by omega), h0, hr, ByteArray.extract_extract]
    congr 2
    rw [ByteArray.size_extract]; omega

theorem RefAt.size {b : Nat} {s : ByteArray} {p : Nat} {st : St} {w : World} (h : RefAt b s p st w) (h0 : st.2 = 0) : (st.1.size : Int) = (s.size : Int) - p := by
  rw [h.rest h0, ByteArray.size_extract]
  have := h.le
  omega

theorem out_low {r : ByteArray} {n : Int} (hn : n ≤ 8) : rawOut r n = rawOut r (Oct.width n) := by
  by_cases h0 : n ≤ 0
  · rw [Oct.width_low h0]; unfold rawOut; rw [if_pos h0, if_pos (by simp)]
  · have e : (Oct.width n : Int) = n := by
      by_cases h8 : n < 8
      · exact Oct.width_mid (by omega) h8
      · have : n = 8 := by omega
        subst this; rfl
    rw [e]
theorem raw_low {st : St} {n : Int} (hn : n ≤ 8) : sRaw st n = sRaw st (Oct.width n) := by
  by_cases h0 : n ≤ 0
  · rw [Oct.width_low h0]
    unfold sRaw rawRest rawErr
    rw [if_pos h0, if_neg (by omega), if_pos (by simp), if_neg (by simp)]
  · have e : (Oct.width n : Int) = n := by
      by_cases h8 : n < 8
      · exact Oct.width_mid (by omega) h8
      · have : n = 8 := by omega
        subst this; rfl
    rw [e]
theorem num_step (X Y : Nat) (hX : X < 256 ^ 7) (hY : Y < 2 ^ 8) : IntKind.u64.wrap (IntKind.u64.wrap ((X : Int) * 256) + IntKind.u64.wrap (Y : Int)) = ((X * 256 + Y : Nat) : Int) := by
  have h7 : X < 72057594037927936 := hX
  have h8 : Y < 256 := hY
  have e : IntKind.u64.wrap ((X : Int) * 256) = ((X * 256 : Nat) : Int) := by rw [IntKind.wrap_u64]; omega
  have e2 : IntKind.u64.wrap (Y : Int) = (Y : Int) := by rw [IntKind.wrap_u64]; omega
  rw [e, e2, IntKind.wrap_u64]
  omega

/-- a quiet answer: the world is as it was, but for draws -/
def Quiet (w : World) (v : Value) (x : Ending) (w' : World) : Prop := x = .returned v ∧ ∃ n, w' = w.drewN n
end Go.Proofs.YtpdgadohfhmcnaaDoor
