/-
  A DISK in the heap: what it holds; that all else stands.
-/
import Derived.WalkKit
import Derived.ProofKit
import Derived.OpenShut
import Derived.Below
import Derived.Laws.AppendOwn
import Derived.Deep.AppendLies
import Derived.Lib.Hide
import Derived.Lib.MinMax
import Derived.Lib.BufferWrite
import Derived.Deep.RegionHeld3
import Derived.Deep.DeepCutAuto
import Derived.Test.YtpdgadohfhmcnaaProg
import Derived.Test.YtpdgadohfhmcnaaOfL
import Derived.Test.YtpdgadohfhmcnaaRow
import Derived.Test.YtpdgadohfhmcnaaDkMath
namespace Go.Proofs.Ytpdgadohfhmcnaa
open Go.ChangeShapes Go.WideShapes Go.ChangeAt Go.RowKit

theorem dnew (w : World) (c : Array Value) (t : TypeId) (j : Nat) (v : Value) (h : c[j]? = some v) : (w.alloc (.cells c t)).cell? ⟨w.heap.size, j, none⟩ = some v := (World.cell?_alloc_new w c t j).trans h
/-- but for the blocks of F, what was there stands -/
structure Kp (F : Nat → Prop) (w w' : World) : Prop where
  os : w'.os = w.os
  tape : w'.tape = w.tape
  output : w'.output = w.output
  size : w.heap.size ≤ w'.heap.size
  block : ∀ k, k < w.heap.size → ¬ F k → w'.heap[k]? = w.heap[k]?
theorem Kp.refl (F : Nat → Prop) (w : World) : Kp F w w := ⟨rfl, rfl, rfl, Nat.le_refl _, fun _ _ _ => rfl⟩
theorem Kp.trans {F G : Nat → Prop} {a b c : World} (h : Kp F a b) (k : Kp G b c) (hG : ∀ i, i < a.heap.size → G i → F i) : Kp F a c :=
  ⟨k.os.trans h.os, k.tape.trans h.tape, k.output.trans h.output, Nat.le_trans h.size k.size, fun i hi hF => (k.block i (Nat.lt_of_lt_of_le hi h.size) (fun g => hF (hG i hi g))).trans (h.block i hi hF)⟩
theorem Kp.mono {F G : Nat → Prop} {a b : World} (h : Kp F a b) (hG : ∀ i, i < a.heap.size → F i → G i) : Kp G a b := ⟨h.os, h.tape, h.output, h.size, fun i hi hn => h.block i hi (fun f => hn (hG i hi f))⟩
theorem Kp.of {w w' : World} (h : Below w.heap.size w w') (F : Nat → Prop) : Kp F w w' := ⟨h.os, h.tape, h.output, h.size, fun k hk _ => h.block k hk⟩
theorem Kp.below {F : Nat → Prop} {B : Nat} {w w' : World} (h : Kp F w w') (hB : B ≤ w.heap.size) (hF : ∀ k, F k → B ≤ k) : Below B w w' := ⟨h.os, h.tape, h.output, h.size, fun k hk => h.block k (by omega) (fun f => by have := hF k f; omega)⟩
theorem Kp.grown {F : Nat → Prop} {w w' : World} {row : Option Nat} (h : w.grownBy w' row) (hr : ∀ k, row = some k → F k) : Kp F w w' := ⟨h.os, h.tape, h.output, h.size, fun k hk hn => h.block k hk (fun e => hn (hr k e.symm))⟩
theorem Kp.set {F : Nat → Prop} (w : World) (a : Addr) (v : Value) (ha : F a.block) : Kp F w (w.setCell a v) := ⟨rfl, rfl, rfl, by simp [World.setCell], fun k _ hn => Below.heap_setCell _ _ _ _ (fun e => hn (e ▸ ha))⟩
/-- the new blocks alone came to F -/
def Ext (F : Nat → Prop) (w : World) (F' : Nat → Prop) : Prop := ∀ k, F' k → F k ∨ w.heap.size ≤ k
theorem Ext.refl (F : Nat → Prop) (w : World) : Ext F w F := fun _ h => .inl h
theorem Ext.old {F F' : Nat → Prop} {w : World} (h : Ext F w F') : ∀ i, i < w.heap.size → F' i → F i := fun i hi f => (h i f).resolve_right (by omega)
theorem Ext.trans {F G H : Nat → Prop} {a b : World} (h : Ext F a G) (k : Ext G b H) (hs : a.heap.size ≤ b.heap.size) : Ext F a H := fun i hi => by
  rcases k i hi with g | g
  · exact h i g
  · exact .inr (by omega)
/-- F's blocks are old ones, and G's: none is of both -/
def Apart (F G : Nat → Prop) : Prop := ∀ k, F k → ¬ G k
theorem Apart.ext {F G F' : Nat → Prop} {w : World} (h : Apart F G) (he : Ext F w F') (hG : ∀ k, G k → k < w.heap.size) : Apart F' G := fun k f g => by
  rcases he k f with f' | f'
  · exact h k f' g
  · have := hG k g; omega
theorem Apart.symm {F G : Nat → Prop} (h : Apart F G) : Apart G F := fun k g f => h k f g

def wcells (l : List Dk.Wr) : List Value := l.flatMap fun w => [.int .i64 (w.1 : Int), .string (ofL w.2)]
theorem wcells_len (l : List Dk.Wr) : (wcells l).length = l.length * 2 := Rw.flat_len _ 2 (fun _ => rfl) l
theorem wcells_app (l m : List Dk.Wr) : wcells (l ++ m) = wcells l ++ wcells m := by simp [wcells]
theorem wcells_at (l : List Dk.Wr) (i : Nat) (h : i < l.length) : (wcells l)[i * 2]? = some (.int .i64 (l[i].1 : Int)) := Rw.flat_get _ 2 (fun _ => rfl) (by decide) l i 0 h (by decide)
theorem wcells_data (l : List Dk.Wr) (i : Nat) (h : i < l.length) : (wcells l)[i * 2 + 1]? = some (.string (ofL l[i].2)) := Rw.flat_get _ 2 (fun _ => rfl) (by decide) l i 1 h (by decide)

/-- how it is armed -/
def ArmOk (st : Dk.St) (am : Bool) (sy ct : Int) : Prop := st.on = true → match st.arm with
  | none => am = false
  | some (s, c) => am = true ∧ sy = (s : Int) ∧ ct = (c : Int)
/-- a disk of n blocks lies at D; F holds all its blocks -/
structure DkB (n : Nat) (F : Nat → Prop) (D R : Nat) (v : Value) (am : Bool) (sy ct : Int) (st : Dk.St) (w : World) : Prop where
  fd : F D
  fr : F R
  fv : ∀ g, v.ownBlock = some g → F g
  hd : w.heap[D]? = some (.cells #[.slice (some ⟨R, 0, none⟩) n n, v, .bool st.on, .bool am, .int .i64 sy, .int .i64 ct] 55 (0, 0))
  hr : w.heap[R]? = some (.cells (Lib.byteCells st.last).toArray 66 (0, 0))
  own : w.ownsRow 0 68 2 v st.wait.length (wcells st.wait)
  arm : ArmOk st am sy ct
  wf : Dk.Wf n st
  lt : ∀ k, F k → k < w.heap.size
def Disk (n : Nat) (F : Nat → Prop) (D : Nat) (st : Dk.St) (w : World) : Prop := ∃ R v am sy ct, DkB n F D R v am sy ct st w
theorem own_kp {w w' : World} {e size n : Nat} {v : Value} {xs : List Value} {F : Nat → Prop} (h : w.ownsRow 0 e size v n xs) (k : Kp F w w') (hF : ∀ g, v.ownBlock = some g → ¬ F g) : w'.ownsRow 0 e size v n xs := by
  have hlt := h.lt
  obtain ⟨hl, h1 | ⟨g, cap, cur, rfl, hB, hb, h2⟩⟩ := h
  · exact ⟨hl, .inl h1⟩
  · exact ⟨hl, .inr ⟨g, cap, cur, rfl, hB, (k.block g (hlt g rfl).2 (hF g rfl)).trans hb, h2⟩⟩
theorem DkB.on {n D R : Nat} {F G : Nat → Prop} {v : Value} {am : Bool} {sy ct : Int} {st : Dk.St} {w w' : World} (h : DkB n F D R v am sy ct st w) (k : Kp G w w') (hG : Apart F G) : DkB n F D R v am sy ct st w' :=
  ⟨h.fd, h.fr, h.fv, (k.block D (h.lt D h.fd) (hG D h.fd)).trans h.hd, (k.block R (h.lt R h.fr) (hG R h.fr)).trans h.hr, own_kp h.own k (fun g hg => hG g (h.fv g hg)), h.arm, h.wf, fun i hi => Nat.lt_of_lt_of_le (h.lt i hi) k.size⟩
theorem Disk.on {n D : Nat} {F G : Nat → Prop} {st : Dk.St} {w w' : World} (h : Disk n F D st w) (k : Kp G w w') (hG : Apart F G) : Disk n F D st w' := by
  obtain ⟨R, v, am, sy, ct, h⟩ := h
  exact ⟨R, v, am, sy, ct, h.on k hG⟩
theorem Disk.below {n D : Nat} {F : Nat → Prop} {st : Dk.St} {w w' : World} (h : Disk n F D st w) (k : Below w.heap.size w w') : Disk n F D st w' := h.on (Kp.of k fun _ => False) (fun _ _ f => f)
theorem DkB.below {n D R : Nat} {F : Nat → Prop} {v : Value} {am : Bool} {sy ct : Int} {st : Dk.St} {w w' : World} (h : DkB n F D R v am sy ct st w) (k : Below w.heap.size w w') : DkB n F D R v am sy ct st w' := h.on (Kp.of k fun _ => False) (fun _ _ f => f)
theorem DkB.neDR {n D R : Nat} {F : Nat → Prop} {v : Value} {am : Bool} {sy ct : Int} {st : Dk.St} {w : World} (h : DkB n F D R v am sy ct st w) : D ≠ R := by
  intro e
  have h1 := h.hd
  rw [e, h.hr] at h1
  simp only [Option.some.injEq, Obj.cells.injEq] at h1
  exact absurd h1.2.1 (by decide)
theorem DkB.neV {n D R : Nat} {F : Nat → Prop} {v : Value} {am : Bool} {sy ct : Int} {st : Dk.St} {w : World} (h : DkB n F D R v am sy ct st w) : ∀ g, v.ownBlock = some g → g ≠ D ∧ g ≠ R := by
  intro g hg
  rcases h.own.2 with ⟨rfl, _⟩ | ⟨g', cap', cur', rfl, _, hb', _⟩
  · cases hg
  · obtain rfl : g' = g := by simpa [Value.ownBlock] using hg
    constructor
    · intro e
      rw [e, h.hd] at hb'
      simp only [Option.some.injEq, Obj.cells.injEq] at hb'
      exact absurd hb'.2.1 (by decide)
    · intro e
      rw [e, h.hr] at hb'
      simp only [Option.some.injEq, Obj.cells.injEq] at hb'
      exact absurd hb'.2.1 (by decide)
/-- the disk's cells, read -/
structure DkC (n D R : Nat) (v : Value) (am : Bool) (sy ct : Int) (on : Bool) (w : World) : Prop where
  c0 : w.cell? ⟨D, 0, none⟩ = some (.slice (some ⟨R, 0, none⟩) n n)
  c1 : w.cell? ⟨D, 1, none⟩ = some v
  c2 : w.cell? ⟨D, 2, none⟩ = some (.bool on)
  c3 : w.cell? ⟨D, 3, none⟩ = some (.bool am)
  c4 : w.cell? ⟨D, 4, none⟩ = some (.int .i64 sy)
  c5 : w.cell? ⟨D, 5, none⟩ = some (.int .i64 ct)
  fz : ∀ j, w.frozen? ⟨D, j, none⟩ = false
theorem DkB.cs {n D R : Nat} {F : Nat → Prop} {v : Value} {am : Bool} {sy ct : Int} {st : Dk.St} {w : World} (h : DkB n F D R v am sy ct st w) : DkC n D R v am sy ct st.on w :=
  ⟨by rw [Lib.cell_of_heap h.hd]; rfl, by rw [Lib.cell_of_heap h.hd]; rfl, by rw [Lib.cell_of_heap h.hd]; rfl, by rw [Lib.cell_of_heap h.hd]; rfl, by rw [Lib.cell_of_heap h.hd]; rfl, by rw [Lib.cell_of_heap h.hd]; rfl, fun j => Lib.frozen_of_heap h.hd j⟩
abbrev dkP (D : Nat) : Value := .pointer (some ⟨D, 0, none⟩)

/-! ### what turns nothing -/
theorem dkPower_any {n D : Nat} {F : Nat → Prop} {st : Dk.St} (w : World) (h : Disk n F D st w) :
    Calls Try.prog 31 #[dkP D] w fun e w' => e = .returned (.int .i64 (if st.on = false then 16 else 0)) ∧ w = w' := by
  obtain ⟨R, v, am, sy, ct, h⟩ := h
  have c2 := h.cs.c2
  have hlt := h.lt D h.fd
  clear h
  generalize st.on = on at *
  go_enter Try.func31, Try.ntmps31
  cases on
  · go_wp2_with fail
    go_ret
    exact ⟨rfl, rfl⟩
  · go_wp2_with fail
    go_ret
    exact ⟨rfl, rfl⟩
theorem dkPower_nil (w : World) :
    Calls Try.prog 31 #[.pointer none] w fun e w' => e = .returned (.int .i64 1) ∧ w = w' := by
  go_enter Try.func31, Try.ntmps31
  go_wp2_with fail
  go_ret
  exact ⟨rfl, rfl⟩
theorem dkOn_any {n D : Nat} {F : Nat → Prop} {st : Dk.St} (w : World) (h : Disk n F D st w) :
    Calls Try.prog 17 #[dkP D] w fun e w' => e = .returned (.bool st.on) ∧ w = w' := by
  have HC := Lib.hid (dkPower_any w h)
  clear h
  generalize st.on = on at *
  go_enter Try.func17, Try.ntmps17
  go_wp2_with fail
  refine HC.out.mono ?_
  rintro x w' ⟨rfl, rfl⟩
  cases on
  · go_wp2_with fail
    go_ret
    exact ⟨rfl, rfl⟩
  · go_wp2_with fail
    go_ret
    exact ⟨rfl, rfl⟩
theorem dkOn_nil (w : World) :
    Calls Try.prog 17 #[.pointer none] w fun e w' => e = .returned (.bool false) ∧ w = w' := by
  go_enter Try.func17, Try.ntmps17
  go_wp2_with fail
  refine (dkPower_nil _).mono ?_
  rintro x w' ⟨rfl, rfl⟩
  go_wp2_with fail
  go_ret
  exact ⟨rfl, rfl⟩
theorem dkBlocks_any {n D : Nat} {F : Nat → Prop} {st : Dk.St} (w : World) (h : Disk n F D st w) :
    Calls Try.prog 10 #[dkP D] w fun e w' => e = .returned (.int .i64 (n : Int)) ∧ w = w' := by
  obtain ⟨R, v, am, sy, ct, h⟩ := h
  have c0 := h.cs.c0
  clear h
  go_enter Try.func10, Try.ntmps10
  go_wp2_with fail
  go_ret
  exact ⟨rfl, rfl⟩
theorem dkBlocks_nil (w : World) :
    Calls Try.prog 10 #[.pointer none] w fun e w' => e = .returned (.int .i64 0) ∧ w = w' := by
  go_enter Try.func10, Try.ntmps10
  go_wp2_with fail
  go_ret
  exact ⟨rfl, rfl⟩
theorem dkFind_any {n D : Nat} {F : Nat → Prop} {st : Dk.St} (a : Int) (w : World) (h : Disk n F D st w) :
    Calls Try.prog 33 #[dkP D, .int .i64 a] w fun e w' => e = .returned (.int .i64 (Dk.code n st a)) ∧ w = w' := by
  have HC := Lib.hid (dkPower_any w h)
  obtain ⟨R, v, am, sy, ct, h⟩ := h
  have c0 := h.cs.c0
  clear h
  unfold Dk.code
  generalize st.on = on at *
  cases on
  · rw [if_pos rfl]
    rw [if_pos rfl] at HC
    go_enter Try.func33, Try.ntmps33
    go_wp2_with fail
    refine HC.out.mono ?_
    rintro x w' ⟨rfl, rfl⟩
    go_wp2_with fail
    go_ret
    exact ⟨rfl, rfl⟩
  · rw [if_neg (by decide)]
    rw [if_neg (by decide)] at HC
    by_cases h1 : a < 0
    · rw [if_pos (.inl h1)]
      have b1 : decide (a < 0) = true := decide_eq_true h1
      clear h1
      go_enter Try.func33, Try.ntmps33
      go_wp2_with fail
      refine HC.out.mono ?_
      rintro x w' ⟨rfl, rfl⟩
      go_wp2_with fail
      go_ret
      exact ⟨rfl, rfl⟩
    · have b1 : decide (a < 0) = false := decide_eq_false h1
      by_cases h2 : (n : Int) ≤ a
      · rw [if_pos (.inr h2)]
        have b2 : decide (a ≥ (n : Int)) = true := decide_eq_true h2
        clear h1 h2
        go_enter Try.func33, Try.ntmps33
        go_wp2_with fail
        refine HC.out.mono ?_
        rintro x w' ⟨rfl, rfl⟩
        go_wp2_with fail
        go_ret
        exact ⟨rfl, rfl⟩
      · rw [if_neg (by omega)]
        have b2 : decide (a ≥ (n : Int)) = false := decide_eq_false h2
        clear h1 h2
        go_enter Try.func33, Try.ntmps33
        go_wp2_with fail
        refine HC.out.mono ?_
        rintro x w' ⟨rfl, rfl⟩
        go_wp2_with fail
        go_ret
        exact ⟨rfl, rfl⟩
theorem dkFind_nil (a : Int) (w : World) :
    Calls Try.prog 33 #[.pointer none, .int .i64 a] w fun e w' => e = .returned (.int .i64 1) ∧ w = w' := by
  go_enter Try.func33, Try.ntmps33
  go_wp2_with fail
  refine (dkPower_nil _).mono ?_
  rintro x w' ⟨rfl, rfl⟩
  go_wp2_with fail
  go_ret
  exact ⟨rfl, rfl⟩
end Go.Proofs.Ytpdgadohfhmcnaa
