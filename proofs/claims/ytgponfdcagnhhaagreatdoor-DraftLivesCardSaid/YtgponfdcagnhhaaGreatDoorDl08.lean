/-
  ROWS OF PAIRS held against each other; whether a pair is among others; the pair of a key; what is gone through: walked. A BLOCK's CELLS as a list: written one by one; carried along.
-/
import Derived.Test.YtgponfdcagnhhaaGreatDoorDl07
import Derived.Deep.QuietTactic
import Derived.WalkKit
import Derived.ProofKit
import Derived.OpenShut
import Derived.Below
import Derived.Deep.AppendLies
section
namespace Go.Proofs.YtgponfdcagnhhaaGreatDoor
open Go.ChangeShapes Go.WideShapes Go.ChangeAt Go.RowKit
theorem same_len {l m : List Hd.Pr} (h : l.length ≠ m.length) : decide (l = m) = false := decide_eq_false fun e => h (by rw [e])
theorem same_not {l m : List Hd.Pr} {k : Nat} (h : prEq (Hd.pr l k) (Hd.pr m k) = false) : decide (l = m) = false := decide_eq_false fun e => by
  subst e
  rw [prEq_iff] at h
  simp at h
theorem same_yes {l m : List Hd.Pr} (h : l.length = m.length) (g : ∀ j, j < l.length → prEq (Hd.pr l j) (Hd.pr m j) = true) : decide (l = m) = true := decide_eq_true (by
  refine List.ext_getElem h fun i h1 h2 => ?_
  have := g i h1
  rw [prEq_iff, Hd.pr_at h1, Hd.pr_at h2] at this
  exact of_decide_eq_true this)
attribute [local go_sem] guardPr
set_option maxHeartbeats 2000000 in
theorem equalPr_any (l m : List Hd.Pr) (A : Option Addr) (c : Nat) (B : Option Addr) (d : Nat) (w : World) (hl : l.length ≤ 100000) (hm : m.length ≤ 100000) (hA : Prs w A l) (hB : Prs w B m) :
    Calls Tryz.prog 82 #[.slice A l.length c, .slice B m.length d] w fun e w' => e = .returned (.bool (decide (l = m))) ∧ Below w.heap.size w w' := by
  have HA := Lib.hid hA
  have HB := Lib.hid hB
  have HNE := Lib.hid (fun h => same_len (l := l) (m := m) h)
  have HNO := Lib.hid (fun k h => same_not (l := l) (m := m) (k := k) h)
  have HYES := Lib.hid (fun h g => same_yes (l := l) (m := m) h g)
  clear hA hB
  generalize decide (l = m) = M at *
  obtain ⟨n, hn⟩ : ∃ n, n = l.length := ⟨_, rfl⟩
  obtain ⟨o, ho⟩ : ∃ o, o = m.length := ⟨_, rfl⟩
  rw [← hn, ← ho]
  have HN := Lib.hid hn
  have HO := Lib.hid ho
  have hnl : n ≤ 100000 := by omega
  have hol : o ≤ 100000 := by omega
  clear hn ho
  by_cases hlen : n = o
  · have HLEN := Lib.hid hlen
    have hlen2 : ((n : Int) != (o : Int)) = false := by rw [hlen]; simp
    go_enter Tryz.func82, Tryz.ntmps82
    go_wp2_with fail
    clear hlen hlen2
    go_loopg [13] n (fun g i wr => ∃ k : Nat, k + g = n ∧ i = .int .i64 (k : Int) ∧ (∀ j, j < k → prEq (Hd.pr l j) (Hd.pr m j) = true) ∧ Below w.heap.size w wr)
    case atStart => exact ⟨0, by omega, rfl, fun j hj => absurd hj (by omega), Below.refl _ _⟩
    case round =>
      obtain ⟨k, hk, rfl, hno, hBl⟩ := hrel
      have HBL := Lib.hid hBl
      have HALL := Lib.hid hno
      clear hBl hno
      by_cases hlt : k < n
      · obtain ⟨b, off, rfl, hbl, hat⟩ := (HA.out.on HBL.out).at_ k (by have := HN.out; omega)
        obtain ⟨b2, off2, rfl, hbl2, hat2⟩ := (HB.out.on HBL.out).at_ k (by have := HLEN.out; have := HO.out; omega)
        obtain ⟨c0, c1, c2, c3⟩ := hat
        obtain ⟨d0, d1, d2, d3⟩ := hat2
        have hlt2 : k < o := by have := HLEN.out; omega
        have hq := fun W => pr_eq (Hd.pr l k) (Hd.pr m k) W
        cases he : prEq (Hd.pr l k) (Hd.pr m k) with
        | true =>
          have HNEXT : Hid (∀ j, j < k + 1 → prEq (Hd.pr l j) (Hd.pr m j) = true) := fun j hj => by
            by_cases e : j = k
            · rw [e]; exact he
            · exact HALL.out j (by omega)
          rw [he] at hq
          clear he
          generalize Hd.pr l k = x at *
          generalize Hd.pr m k = y at *
          obtain ⟨x1, x2, x3, x4⟩ := x
          obtain ⟨y1, y2, y3, y4⟩ := y
          simp only [prV] at hq c0 c1 c2 c3 d0 d1 d2 d3
          go_wp2_with fail
          go_quiet (fail)
          go_wp2_with fail
          go_roundg (gk - 1)
          case rel => exact ⟨k + 1, by omega, by go_num, HNEXT.out, drewN_below HBL.out _⟩
          case measure => omega
        | false =>
          have HM := Lib.hid (HNO.out k he)
          rw [he] at hq
          clear he
          generalize Hd.pr l k = x at *
          generalize Hd.pr m k = y at *
          obtain ⟨x1, x2, x3, x4⟩ := x
          obtain ⟨y1, y2, y3, y4⟩ := y
          simp only [prV] at hq c0 c1 c2 c3 d0 d1 d2 d3
          go_wp2_with fail
          go_quiet (fail)
          go_wp2_with fail
          go_ret
          exact ⟨ret_bool HM.out.symm, drewN_below HBL.out _⟩
      · have HM := Lib.hid (HYES.out (by have := HLEN.out; have := HN.out; have := HO.out; omega) (fun j hj => HALL.out j (by have := HN.out; omega)))
        have hlt2 : ¬ k < o := by have := HLEN.out; omega
        go_wp2_with fail
        go_ret
        exact ⟨ret_bool HM.out.symm, HBL.out⟩
  · have HM := Lib.hid (HNE.out (by have := HN.out; have := HO.out; omega))
    have hlen2 : ((n : Int) != (o : Int)) = true := by rw [bne_iff_ne]; omega
    clear hlen
    go_enter Tryz.func82, Tryz.ntmps82
    go_wp2_with fail
    go_ret
    exact ⟨ret_bool HM.out.symm, Below.refl _ _⟩
theorem hsame_any (l m : List Hd.Pr) (A : Option Addr) (c : Nat) (B : Option Addr) (d : Nat) (w : World) (hl : l.length ≤ 100000) (hm : m.length ≤ 100000) (hA : Prs w A l) (hB : Prs w B m) :
    Calls Tryz.prog 67 #[.slice A l.length c, .slice B m.length d] w fun e w' => e = .returned (.bool (decide (l = m))) ∧ Below w.heap.size w w' := by
  have HC := Lib.hid (equalPr_any l m A c B d w hl hm hA hB)
  generalize decide (l = m) = M at *
  go_enter Tryz.func67, Tryz.ntmps67
  go_wp2_with fail
  refine HC.out.mono ?_
  rintro e w1 ⟨rfl, hB1⟩
  have HB1 := Lib.hid hB1
  clear hB1
  go_wp2_with fail
  go_ret
  exact ⟨rfl, HB1.out⟩
end Go.Proofs.YtgponfdcagnhhaaGreatDoor
end
section
namespace Go.Proofs.YtgponfdcagnhhaaGreatDoor
open Go.ChangeShapes Go.WideShapes Go.ChangeAt Go.RowKit
/-- block q holds these, from its front -/
def Cels (W : World) (q : Nat) (xs : List Value) : Prop := ∀ j x, xs[j]? = some x → W.cell? ⟨q, j, none⟩ = some x
theorem Cels.on {W W' : World} {B q : Nat} {xs : List Value} (h : Cels W q xs) (hb : Below B W W') (hq : q < B) : Cels W' q xs := fun j x hj => (hb.cell (p := ⟨q, j, none⟩) hq).trans (h j x hj)
theorem Cels.put {W : World} {q : Nat} {xs : List Value} (h : Cels W q xs) (j : Nat) (v : Value) (hj : j < xs.length) : Cels (W.setCell ⟨q, j, none⟩ v) q (xs.set j v) := fun i x hi => by
  rw [List.getElem?_set] at hi
  by_cases e : j = i
  · subst e
    rw [if_pos rfl, if_pos hj] at hi
    obtain rfl := Option.some.inj hi
    exact World.cell?_setCell_same W ⟨q, j, none⟩ _ (h j xs[j] (List.getElem?_eq_getElem hj))
  · rw [if_neg e] at hi
    exact (World.cell?_setCell_other W ⟨q, j, none⟩ ⟨q, i, none⟩ _ (by simp only [ne_eq, Addr.mk.injEq, not_and]; omega)).trans (h i x hi)
theorem Cels.aside {W : World} {q : Nat} {xs : List Value} (h : Cels W q xs) {g : Nat} (hg : g ≠ q) (j : Nat) (v : Value) : Cels (W.setCell ⟨g, j, none⟩ v) q xs := fun i x hi =>
  (World.cell?_setCell_other W ⟨g, j, none⟩ ⟨q, i, none⟩ _ (by simp only [ne_eq, Addr.mk.injEq, not_and]; omega)).trans (h i x hi)
theorem Cels.new (W : World) (c : Array Value) (t : TypeId) : Cels (W.alloc (.cells c t)) W.heap.size c.toList := fun j x hj => (World.cell?_alloc_new W c t j).trans (by simpa using hj)
theorem Cels.grown {W W' : World} {q : Nat} {row : Option Nat} {xs : List Value} (h : Cels W q xs) (hg : W.grownBy W' row) (hne : some q ≠ row) : Cels W' q xs := fun j x hj => hg.cell (h j x hj) hne
/-- nothing of block q is frozen -/
def Soft (W : World) (q : Nat) : Prop := ∀ j, W.frozen? ⟨q, j, none⟩ = false
theorem Soft.on {W W' : World} {B q : Nat} (h : Soft W q) (hb : Below B W W') (hq : q < B) : Soft W' q := fun j => (hb.frozen (p := ⟨q, j, none⟩) hq).trans (h j)
theorem Soft.put {W : World} {q : Nat} (h : Soft W q) (p : Addr) (v : Value) : Soft (W.setCell p v) q := fun j => (World.frozen?_setCell W p ⟨q, j, none⟩ v).trans (h j)
theorem Soft.new (W : World) (c : Array Value) (t : TypeId) : Soft (W.alloc (.cells c t)) W.heap.size := fun j => by simp
theorem Soft.grown {W W' : World} {q : Nat} {row : Option Nat} (h : Soft W q) (hg : W.grownBy W' row) (hq : q < W.heap.size) (hne : some q ≠ row) : Soft W' q := fun j => (World.grownBy.frozen_far hg ⟨q, j, none⟩ hq hne).trans (h j)
end Go.Proofs.YtgponfdcagnhhaaGreatDoor
end
