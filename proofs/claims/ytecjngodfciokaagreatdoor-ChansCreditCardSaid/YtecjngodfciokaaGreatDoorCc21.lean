/-
  WHAT THE WALKS OF METHODS AND REPLIES SHARE: an Out's box, rows beside written boxes, heads that were read. AN APPEND whose run is known, in a region of one order. slices.Clone OF PAIRS: the answer is memory of its own.
-/
import Derived.Test.YtecjngodfciokaaGreatDoorCc04
import Derived.Test.YtecjngodfciokaaGreatDoorCc16
import Derived.Test.YtecjngodfciokaaGreatDoorCc17
import Derived.Test.YtecjngodfciokaaGreatDoorCc19
import Derived.Test.YtecjngodfciokaaGreatDoorCc20
import Derived.Deep.RegionHeld3
import Derived.Deep.DeepCutAuto
section
namespace Go.Proofs.YtecjngodfciokaaGreatDoor
open Go.ChangeShapes Go.WideShapes Go.ChangeAt Go.RowKit
theorem OutB.zero {w W : World} (h : Below w.heap.size w W) (n : Nat) (hn : n = W.heap.size) (t : TypeId) : OutB w n [] (W.alloc (.cells #[.string ⟨#[]⟩, .int .i64 0] t)) := by
  subst hn
  exact OutB.new h [] t
theorem PrAt.aside {W : World} {b o : Nat} {x : Hd.Pr} (h : PrAt W b o x) {g : Nat} (hg : g ≠ b) (j : Nat) (v : Value) : PrAt (W.setCell ⟨g, j, none⟩ v) b o x :=
  ⟨(aside_cell hg _ _ _).trans h.c0, (aside_cell hg _ _ _).trans h.c1, (aside_cell hg _ _ _).trans h.c2, (aside_cell hg _ _ _).trans h.c3⟩
theorem Prs.aside {W : World} {A : Option Addr} {l : List Hd.Pr} (h : Prs W A l) {g : Nat} (hg : ∀ a, A = some a → g ≠ a.block) (j : Nat) (v : Value) : Prs (W.setCell ⟨g, j, none⟩ v) A l := ⟨fun i hi => by
  obtain ⟨b, off, rfl, hb, hat⟩ := h.at_ i hi
  exact ⟨b, off, rfl, by simpa [World.setCell] using hb, hat.aside (hg _ rfl) j v⟩⟩
/-- a number of cells of a block written, one behind the other -/
def putAll (q : Nat) : Nat → List Value → World → World
  | _, [], W => W
  | j, v :: vs, W => putAll q (j + 1) vs (W.setCell ⟨q, j, none⟩ v)
theorem Prs.putAll {A : Option Addr} {l : List Hd.Pr} {g : Nat} (hg : ∀ a, A = some a → g ≠ a.block) : ∀ (vs : List Value) (j : Nat) {W : World}, Prs W A l → Prs (putAll g j vs W) A l
  | [], _, _, h => h
  | v :: vs, j, _, h => Prs.putAll hg vs (j + 1) (h.aside hg j v)
theorem below_putAll {w : World} {g : Nat} (hg : w.heap.size ≤ g) : ∀ (vs : List Value) (j : Nat) {W : World}, Below w.heap.size w W → Below w.heap.size w (putAll g j vs W)
  | [], _, _, h => h
  | v :: vs, j, _, h => below_putAll hg vs (j + 1) (h.setCell hg v)
theorem Parts.putAll {T : Option Addr} {l : List Nat} {g : Nat} (hg : ∀ a, T = some a → g ≠ a.block) : ∀ (vs : List Value) (j : Nat) {W : World}, Parts W T l → Parts (putAll g j vs W) T l
  | [], _, _, h => h
  | v :: vs, j, _, h => Parts.putAll hg vs (j + 1) (h.aside hg j v)
/-- all cells of a box written -/
theorem BoxC.fill {w W : World} {c : Nat} {xs : List Value} (h : BoxC w c xs W) : ∀ (vs : List Value), vs.length = xs.length → BoxC w c vs (Go.Proofs.YtecjngodfciokaaGreatDoor.putAll c 0 vs W) := by
  have gen : ∀ (vs us : List Value) (j : Nat) (W : World) (ts : List Value), ts.length = j → us.length = vs.length → BoxC w c (ts ++ us) W → BoxC w c (ts ++ vs) (Go.Proofs.YtecjngodfciokaaGreatDoor.putAll c j vs W) := by
    intro vs
    induction vs with
    | nil =>
      intro us j W ts _ hu hb
      rw [List.length_eq_zero_iff.1 hu] at hb
      exact hb
    | cons v vs ih =>
      intro us j W ts ht hu hb
      match us, hu with
      | u :: us, hu =>
        have h1 := hb.put j v (by rw [List.length_append, ht]; simp)
        have e : (ts ++ u :: us).set j v = (ts ++ [v]) ++ us := by
          rw [List.set_append_right _ _ (by omega), ht, Nat.sub_self]
          simp
        rw [e] at h1
        have := ih us (j + 1) (W.setCell ⟨c, j, none⟩ v) (ts ++ [v]) (by simp [ht]) (by simpa using hu) h1
        rw [List.append_assoc] at this
        exact this
  intro vs hv
  exact gen vs xs 0 W [] rfl hv.symm h
end Go.Proofs.YtecjngodfciokaaGreatDoor
end
section
namespace Go.Proofs.YtecjngodfciokaaGreatDoor
open Go.ChangeShapes Go.WideShapes Go.ChangeAt Go.RowKit
theorem wpList_append_run {P : Program} {ops : Array Oper} {rest : List Oper} {o : Oper} {a : Act} {w : World} {Q : Exit → Act → World → Prop} (hgd : o.guard = none) (s x : Operand) (t : TypeId)
    (ho : o.op = .call { callee := .builtin .append, args := #[s, x], argTypes := #[t, t] }) (v xv : Value) (hs : a.eval s = v) (hx : a.eval x = xv) {v' : Value} {w' : World}
    (hr : (Builtin.append_ #[t, t] o.type #[v, xv]).run P w = .ok v' w') (h : wpList P ops Q rest (a.put o.dst v') w') : wpList P ops Q (o :: rest) a w := by
  have hw : Region.wanted o (yielded ops a.tmps) = true := by simp [Region.wanted, hgd]
  unfold wpList
  rw [if_pos hw]
  refine Or.inl ?_
  have := step_append_run (ops := ops) (K := wpList P ops Q rest) (Q := Q) (E := True) hgd s x t ho v xv hs hx hr h
  rw [if_pos hw] at this
  exact this
end Go.Proofs.YtecjngodfciokaaGreatDoor
end
section
namespace Go.Proofs.YtecjngodfciokaaGreatDoor
open Go.ChangeShapes Go.WideShapes Go.ChangeAt Go.RowKit
/-- pairs in memory of one's own -/
def OwnPrs (B : Nat) (w : World) (A : Option Addr) (c : Nat) (l : List Hd.Pr) : Prop := w.ownsRow B 87 4 (.slice A l.length c) l.length (prs l)
theorem OwnPrs.row {B : Nat} {w : World} {A : Option Addr} {c : Nat} {l : List Hd.Pr} (h : OwnPrs B w A c l) : Prs w A l ∧ l.length ≤ c ∧ ∀ a, A = some a → B ≤ a.block ∧ a.block < w.heap.size := by
  obtain ⟨A2, c2, e2, hc, -, hP⟩ := rown_prs h
  obtain ⟨rfl, -, rfl⟩ := Value.slice.inj e2
  refine ⟨hP, hc, fun a ha => ?_⟩
  subst ha
  exact World.ownsRow.lt h a.block rfl
theorem OwnPrs.on {B : Nat} {w w' : World} {A : Option Addr} {c : Nat} {l : List Hd.Pr} (h : OwnPrs B w A c l) (hb : Below w.heap.size w w') : OwnPrs B w' A c l :=
  World.ownsRow.kept (row := none) h ⟨hb.os, hb.tape, hb.output, hb.size, fun k hk _ => hb.block k hk⟩ (by
    cases A with
    | none => exact Or.inl rfl
    | some a => exact Or.inr (by simp [Value.ownBlock]))
theorem OwnPrs.aside {B : Nat} {w : World} {A : Option Addr} {c : Nat} {l : List Hd.Pr} (h : OwnPrs B w A c l) {g : Nat} (hg : ∀ a, A = some a → g ≠ a.block) (j : Nat) (v : Value) : OwnPrs B (w.setCell ⟨g, j, none⟩ v) A c l :=
  World.ownsRow.kept (row := some g) h ⟨rfl, rfl, rfl, by simp [World.setCell], fun k _ hk => heap_setCell_other w ⟨g, j, none⟩ k v (fun e => hk (by simp [e]))⟩ (by
    cases A with
    | none => exact Or.inl rfl
    | some a => exact Or.inr (by simp only [Value.ownBlock, ne_eq, Option.some.injEq]; exact fun e => hg a rfl e.symm))
def ClOwn (l : List Hd.Pr) (w : World) (e : Ending) (w' : World) : Prop := ∃ A' c', e = .returned (.slice A' l.length c') ∧ OwnPrs w.heap.size w' A' c' l ∧ Below w.heap.size w w'
set_option maxRecDepth 100000 in
set_option maxHeartbeats 2000000 in
theorem cloneOwn_any (l : List Hd.Pr) (A : Option Addr) (c : Nat) (w : World) (hl : l.length ≤ 100000) (hc : l.length ≤ c) (hp : Prs w A l) : Calls Tryz.prog 43 #[.slice A l.length c] w (ClOwn l w) := by
  have qT : ∀ (w : World) (a : Option Addr) (n c n' c' : Nat), (binOp .eql 33 (.slice a n c) (.slice none n' c')).run Tryz.prog w = .ok (.bool a.isNone) w := fun w a n c n' c' => Lib.run_eql_slice_nil w _ _ a n c n' c' Tryz.underlying33
  cases A with
  | none =>
    have h0 : l = [] := by
      cases l with
      | nil => rfl
      | cons x t => obtain ⟨b, off, e, _⟩ := hp.at_ 0 (by simp); cases e
    subst h0
    go_enter Tryz.func43, Tryz.ntmps43
    go_wp2_with fail
    go_ret
    exact ⟨none, 0, rfl, World.ownsRow_nil _ _ _ _, Below.refl _ _⟩
  | some ad =>
    have hB4 : Below w.heap.size w (w.alloc (.cells #[] 87)) := (Below.refl _ _).alloc (Nat.le_refl _) _
    have hown4 : (w.alloc (.cells #[] 87)).ownsRow w.heap.size 87 4 (.slice (some ⟨w.heap.size, 0, none⟩) 0 0) 0 [] := World.ownsRow_made (e := 87) (size := 4) w #[] 0 (Nat.le_refl _) (by unfold maxLen; omega) rfl
    obtain ⟨A', c', w5, hrun, hown5, hgr5, hc5, hA5⟩ := copy_run (W := w.alloc (.cells #[] 87)) (l := l) (A := some ad) (c := c) hl hc (hp.on hB4) hown4 (by simp)
    have hs4 : (w.alloc (.cells #[] 87)).heap.size = w.heap.size + 1 := by simp
    have hB5 : Below w.heap.size w w5 := hB4.grown hgr5 (by rw [hs4]; omega) (fun k hk => by cases hk; omega)
    have HRUN := Lib.hid hrun
    have HE := Lib.hid (show ClOwn l w (.returned (.slice A' l.length c')) w5 from ⟨A', c', rfl, hown5, hB5⟩)
    clear hB4 hown4 hs4 hrun hown5 hgr5 hc5 hA5 hB5 hp
    go_enter Tryz.func43, Tryz.ntmps43
    go_wp2_with (first
      | (at_builtin; (refine wpList_append_run (by rfl) _ _ 33 (by rfl) _ _ (by rfl) (by rfl) HRUN.out ?_)))
    go_ret
    exact HE.out
end Go.Proofs.YtecjngodfciokaaGreatDoor
end
