/-
 A part of the proof.
-/
import Derived.Test.YtaikigponkjkgaaGreatDoorXr05
import Derived.Deep.QuietTactic
import Derived.WalkKit
import Derived.ProofKit
import Derived.OpenShut
import Derived.Below
import Derived.Deep.AppendLies
import Derived.StillTailTactics
section
namespace Go.Proofs.YtaikigponkjkgaaGreatDoor
open Go.ChangeShapes Go.WideShapes Go.ChangeAt Go.RowKit
open Go.Lib (hid)
theorem same_len {l m : List Hd.Pr} (h : l.length ≠ m.length) : decide (l = m) = false := decide_eq_false fun e => h (by rw [e])
theorem same_not {l m : List Hd.Pr} {k : Nat} (h : prEq (Hd.pr l k) (Hd.pr m k) = false) : decide (l = m) = false := decide_eq_false fun e => by
 subst e
 rw [prEq_iff] at h
 simp at h
theorem same_yes {l m : List Hd.Pr} (h : l.length = m.length) (g : ∀ j, j < l.length → prEq (Hd.pr l j) (Hd.pr m j) = true) : decide (l = m) = true := decide_eq_true (by
 refine List.ext_getElem h fun i h1 h2 => ?_
 have := g i h1
 rw [prEq_iff, Hd.pr_at h1, Hd.pr_at h2] at this
 exact of_decide_eq_true this)
attribute [local go_sem] guardPr
set_option maxHeartbeats 2000000 in
theorem equalPr_any (l m : List Hd.Pr) (A : Option Addr) (c : Nat) (B : Option Addr) (d : Nat) (w : World) (hl : l.length ≤ 100000) (hm : m.length ≤ 100000) (hA : Prs w A l) (hB : Prs w B m) :
  Calls Tryz.prog 137 #[.slice A l.length c, .slice B m.length d] w fun e w' => e = .returned (.bool (decide (l = m))) ∧ Below w.heap.size w w' := by
 have HA := hid hA
 have HB := hid hB
 have HNE := hid (fun h => same_len (l := l) (m := m) h)
 have HNO := hid (fun k h => same_not (l := l) (m := m) (k := k) h)
 have HYES := hid (fun h g => same_yes (l := l) (m := m) h g)
 clear hA hB
 generalize decide (l = m) = M at *
 obtain ⟨n, hn⟩ : ∃ n, n = l.length := ⟨_, rfl⟩
 obtain ⟨o, ho⟩ : ∃ o, o = m.length := ⟨_, rfl⟩
 rw [← hn, ← ho]
 have HN := hid hn
 have HO := hid ho
 have hnl : n ≤ 100000 := by omega
 have hol : o ≤ 100000 := by omega
 clear hn ho
 by_cases hlen : n = o
 ·have HLEN := hid hlen
  have hlen2 : ((n : Int) != (o : Int)) = false := by rw [hlen]; simp
  go_enter Tryz.func137, Tryz.ntmps137
  go_wp2_with fail
  clear hlen hlen2
  go_loopg [13] n (fun g i wr => ∃ k : Nat, k + g = n ∧ i = .int .i64 (k : Int) ∧ (∀ j, j < k → prEq (Hd.pr l j) (Hd.pr m j) = true) ∧ Below w.heap.size w wr)
  case atStart => exact ⟨0, by omega, rfl, fun j hj => absurd hj (by omega), Below.refl _ _⟩
  case round =>
   obtain ⟨k, hk, rfl, hno, hBl⟩ := hrel
   have HBL := hid hBl
   have HALL := hid hno
   clear hBl hno
   by_cases hlt : k < n
   ·obtain ⟨b, off, rfl, hbl, hat⟩ := (HA.out.on HBL.out).at_ k (by have := HN.out; omega)
    obtain ⟨b2, off2, rfl, hbl2, hat2⟩ := (HB.out.on HBL.out).at_ k (by have := HLEN.out; have := HO.out; omega)
    obtain ⟨c0, c1, c2, c3⟩ := hat
    obtain ⟨d0, d1, d2, d3⟩ := hat2
    have hlt2 : k < o := by have := HLEN.out; omega
    have hq := fun W => pr_eq (Hd.pr l k) (Hd.pr m k) W
    cases he : prEq (Hd.pr l k) (Hd.pr m k) with
    | true =>
     have HNEXT : Hid (∀ j, j < k + 1 → prEq (Hd.pr l j) (Hd.pr m j) = true) := fun j hj => by
      by_cases e : j = k
      ·rw [e]; exact he
      ·exact HALL.out j (by omega)
     rw [he] at hq
     clear he
     generalize Hd.pr l k = x at *
     generalize Hd.pr m k = y at *
     obtain ⟨x1, x2, x3, x4⟩ := x
     obtain ⟨y1, y2, y3, y4⟩ := y
     simp only [prV] at hq c0 c1 c2 c3 d0 d1 d2 d3
     go_wp2_with fail
     go_quiet (fail)
     go_wp2_with fail
     go_roundg (gk - 1)
     case rel => exact ⟨k + 1, by omega, by go_num, HNEXT.out, drewN_below HBL.out _⟩
     case measure => omega
    | false =>
     have HM := hid (HNO.out k he)
     rw [he] at hq
     clear he
     generalize Hd.pr l k = x at *
     generalize Hd.pr m k = y at *
     obtain ⟨x1, x2, x3, x4⟩ := x
     obtain ⟨y1, y2, y3, y4⟩ := y
     simp only [prV] at hq c0 c1 c2 c3 d0 d1 d2 d3
     go_wp2_with fail
     go_quiet (fail)
     go_wp2_with fail
     go_ret
     exact ⟨ret_bool HM.out.symm, drewN_below HBL.out _⟩
   ·have HM := hid (HYES.out (by have := HLEN.out; have := HN.out; have := HO.out; omega) (fun j hj => HALL.out j (by have := HN.out; omega)))
    have hlt2 : ¬ k < o := by have := HLEN.out; omega
    go_wp2_with fail
    go_ret
    exact ⟨ret_bool HM.out.symm, HBL.out⟩
 ·have HM := hid (HNE.out (by have := HN.out; have := HO.out; omega))
  have hlen2 : ((n : Int) != (o : Int)) = true := by rw [bne_iff_ne]; omega
  clear hlen
  go_enter Tryz.func137, Tryz.ntmps137
  go_wp2_with fail
  go_ret
  exact ⟨ret_bool HM.out.symm, Below.refl _ _⟩
set_option maxHeartbeats 2000000 in
theorem rsame9_any (l m : List Hd.Pr) (A : Option Addr) (c : Nat) (B : Option Addr) (d : Nat) (w : World) (hl : l.length ≤ 100000) (hm : m.length ≤ 100000) (hA : Prs w A l) (hB : Prs w B m) :
  Calls Tryz.prog 96 #[.slice A l.length c, .slice B m.length d] w fun e w' => e = .returned (.bool (decide (l = m))) ∧ Below w.heap.size w w' := by
 have HA := hid hA
 have HB := hid hB
 have HNE := hid (fun h => same_len (l := l) (m := m) h)
 have HNO := hid (fun k h => same_not (l := l) (m := m) (k := k) h)
 have HYES := hid (fun h g => same_yes (l := l) (m := m) h g)
 clear hA hB
 generalize decide (l = m) = M at *
 obtain ⟨n, hn⟩ : ∃ n, n = l.length := ⟨_, rfl⟩
 obtain ⟨o, ho⟩ : ∃ o, o = m.length := ⟨_, rfl⟩
 rw [← hn, ← ho]
 have HN := hid hn
 have HO := hid ho
 have hnl : n ≤ 100000 := by omega
 have hol : o ≤ 100000 := by omega
 clear hn ho
 by_cases hlen : n = o
 ·have HLEN := hid hlen
  have hlen2 : ((n : Int) != (o : Int)) = false := by rw [hlen]; simp
  go_enter Tryz.func96, Tryz.ntmps96
  go_wp2_with fail
  clear hlen hlen2
  go_loopg [13] n (fun g i wr => ∃ k : Nat, k + g = n ∧ i = .int .i64 (k : Int) ∧ (∀ j, j < k → prEq (Hd.pr l j) (Hd.pr m j) = true) ∧ Below w.heap.size w wr)
  case atStart => exact ⟨0, by omega, rfl, fun j hj => absurd hj (by omega), Below.refl _ _⟩
  case round =>
   obtain ⟨k, hk, rfl, hno, hBl⟩ := hrel
   have HBL := hid hBl
   have HALL := hid hno
   clear hBl hno
   by_cases hlt : k < n
   ·obtain ⟨b, off, rfl, hbl, hat⟩ := (HA.out.on HBL.out).at_ k (by have := HN.out; omega)
    obtain ⟨b2, off2, rfl, hbl2, hat2⟩ := (HB.out.on HBL.out).at_ k (by have := HLEN.out; have := HO.out; omega)
    obtain ⟨c0, c1, c2, c3⟩ := hat
    obtain ⟨d0, d1, d2, d3⟩ := hat2
    have hlt2 : k < o := by have := HLEN.out; omega
    have hq := fun W => pr_eq (Hd.pr l k) (Hd.pr m k) W
    cases he : prEq (Hd.pr l k) (Hd.pr m k) with
    | true =>
     have HNEXT : Hid (∀ j, j < k + 1 → prEq (Hd.pr l j) (Hd.pr m j) = true) := fun j hj => by
      by_cases e : j = k
      ·rw [e]; exact he
      ·exact HALL.out j (by omega)
     rw [he] at hq
     clear he
     generalize Hd.pr l k = x at *
     generalize Hd.pr m k = y at *
     obtain ⟨x1, x2, x3, x4⟩ := x
     obtain ⟨y1, y2, y3, y4⟩ := y
     simp only [prV] at hq c0 c1 c2 c3 d0 d1 d2 d3
     go_wp2_with fail
     go_quiet (fail)
     go_wp2_with fail
     go_roundg (gk - 1)
     case rel => exact ⟨k + 1, by omega, by go_num, HNEXT.out, drewN_below HBL.out _⟩
     case measure => omega
    | false =>
     have HM := hid (HNO.out k he)
     rw [he] at hq
     clear he
     generalize Hd.pr l k = x at *
     generalize Hd.pr m k = y at *
     obtain ⟨x1, x2, x3, x4⟩ := x
     obtain ⟨y1, y2, y3, y4⟩ := y
     simp only [prV] at hq c0 c1 c2 c3 d0 d1 d2 d3
     go_wp2_with fail
     go_quiet (fail)
     go_wp2_with fail
     go_ret
     exact ⟨ret_bool HM.out.symm, drewN_below HBL.out _⟩
   ·have HM := hid (HYES.out (by have := HLEN.out; have := HN.out; have := HO.out; omega) (fun j hj => HALL.out j (by have := HN.out; omega)))
    have hlt2 : ¬ k < o := by have := HLEN.out; omega
    go_wp2_with fail
    go_ret
    exact ⟨ret_bool HM.out.symm, HBL.out⟩
 ·have HM := hid (HNE.out (by have := HN.out; have := HO.out; omega))
  have hlen2 : ((n : Int) != (o : Int)) = true := by rw [bne_iff_ne]; omega
  clear hlen
  go_enter Tryz.func96, Tryz.ntmps96
  go_wp2_with fail
  go_ret
  exact ⟨ret_bool HM.out.symm, Below.refl _ _⟩
theorem hsame_any (l m : List Hd.Pr) (A : Option Addr) (c : Nat) (B : Option Addr) (d : Nat) (w : World) (hl : l.length ≤ 100000) (hm : m.length ≤ 100000) (hA : Prs w A l) (hB : Prs w B m) :
  Calls Tryz.prog 121 #[.slice A l.length c, .slice B m.length d] w fun e w' => e = .returned (.bool (decide (l = m))) ∧ Below w.heap.size w w' := by
 have HC := hid (equalPr_any l m A c B d w hl hm hA hB)
 generalize decide (l = m) = M at *
 go_enter Tryz.func121, Tryz.ntmps121
 go_wp2_with fail
 refine HC.out.mono ?_
 rintro e w1 ⟨rfl, hB1⟩
 have HB1 := hid hB1
 clear hB1
 go_wp2_with fail
 go_ret
 exact ⟨rfl, HB1.out⟩
def Cels (W : World) (q : Nat) (xs : List Value) : Prop := ∀ j x, xs[j]? = some x → W.cell? ⟨q, j, none⟩ = some x
theorem Cels.on {W W' : World} {B q : Nat} {xs : List Value} (h : Cels W q xs) (hb : Below B W W') (hq : q < B) : Cels W' q xs := fun j x hj => (hb.cell (p := ⟨q, j, none⟩) hq).trans (h j x hj)
theorem Cels.put {W : World} {q : Nat} {xs : List Value} (h : Cels W q xs) (j : Nat) (v : Value) (hj : j < xs.length) : Cels (W.setCell ⟨q, j, none⟩ v) q (xs.set j v) := fun i x hi => by
 rw [List.getElem?_set] at hi
 by_cases e : j = i
 ·subst e
  rw [if_pos rfl, if_pos hj] at hi
  obtain rfl := Option.some.inj hi
  exact World.cell?_setCell_same W ⟨q, j, none⟩ _ (h j xs[j] (List.getElem?_eq_getElem hj))
 ·rw [if_neg e] at hi
  exact (World.cell?_setCell_other W ⟨q, j, none⟩ ⟨q, i, none⟩ _ (by simp only [ne_eq, Addr.mk.injEq, not_and]; omega)).trans (h i x hi)
theorem Cels.aside {W : World} {q : Nat} {xs : List Value} (h : Cels W q xs) {g : Nat} (hg : g ≠ q) (j : Nat) (v : Value) : Cels (W.setCell ⟨g, j, none⟩ v) q xs := fun i x hi =>
 (World.cell?_setCell_other W ⟨g, j, none⟩ ⟨q, i, none⟩ _ (by simp only [ne_eq, Addr.mk.injEq, not_and]; omega)).trans (h i x hi)
theorem Cels.new (W : World) (c : Array Value) (t : TypeId) : Cels (W.alloc (.cells c t)) W.heap.size c.toList := fun j x hj => (World.cell?_alloc_new W c t j).trans (by simpa using hj)
theorem Cels.grown {W W' : World} {q : Nat} {row : Option Nat} {xs : List Value} (h : Cels W q xs) (hg : W.grownBy W' row) (hne : some q ≠ row) : Cels W' q xs := fun j x hj => hg.cell (h j x hj) hne
def Soft (W : World) (q : Nat) : Prop := ∀ j, W.frozen? ⟨q, j, none⟩ = false
theorem Soft.on {W W' : World} {B q : Nat} (h : Soft W q) (hb : Below B W W') (hq : q < B) : Soft W' q := fun j => (hb.frozen (p := ⟨q, j, none⟩) hq).trans (h j)
theorem Soft.put {W : World} {q : Nat} (h : Soft W q) (p : Addr) (v : Value) : Soft (W.setCell p v) q := fun j => (World.frozen?_setCell W p ⟨q, j, none⟩ v).trans (h j)
theorem Soft.new (W : World) (c : Array Value) (t : TypeId) : Soft (W.alloc (.cells c t)) W.heap.size := fun j => by simp
theorem Soft.grown {W W' : World} {q : Nat} {row : Option Nat} (h : Soft W q) (hg : W.grownBy W' row) (hq : q < W.heap.size) (hne : some q ≠ row) : Soft W' q := fun j => (World.grownBy.frozen_far hg ⟨q, j, none⟩ hq hne).trans (h j)
theorem prCels {W : World} {g : Nat} {x : Hd.Pr} (h : PrAt W g 0 x) : Cels W g (prL x) := fun j v hj => by
 match j, hj with
 | 0, hj => obtain rfl := Option.some.inj hj; exact h.c0
 | 1, hj => obtain rfl := Option.some.inj hj; exact h.c1
 | 2, hj => obtain rfl := Option.some.inj hj; exact h.c2
 | 3, hj => obtain rfl := Option.some.inj hj; exact h.c3
theorem prOf {W : World} {g : Nat} {x : Hd.Pr} (h : Cels W g (prL x)) : PrAt W g 0 x := ⟨h 0 _ rfl, h 1 _ rfl, h 2 _ rfl, h 3 _ rfl⟩
theorem PrAt.new (x : Hd.Pr) (W : World) : PrAt (W.alloc (.cells #[.string (ofL x.key), .int .u8 (x.kind : Int), .int .i64 x.num, .string (ofL x.txt)] 142)) W.heap.size 0 x := prOf (Cels.new W _ _)
theorem pr_over {W : World} {g : Nat} {x : Hd.Pr} (h : PrAt W g 0 x) (y : Hd.Pr) : PrAt ((((W.setCell ⟨g, 0, none⟩ (.string (ofL y.key))).setCell ⟨g, 1, none⟩ (.int .u8 (y.kind : Int))).setCell ⟨g, 2, none⟩ (.int .i64 y.num)).setCell ⟨g, 3, none⟩ (.string (ofL y.txt))) g 0 y :=
 prOf ((((prCels h).put 0 _ (by simp [prL])).put 1 _ (by simp [prL])).put 2 _ (by simp [prL]) |>.put 3 _ (by simp [prL]))
abbrev zeroed (W : World) (g : Nat) : World := (((W.setCell ⟨g, 0, none⟩ (.string ⟨#[]⟩)).setCell ⟨g, 1, none⟩ (.int .u8 0)).setCell ⟨g, 2, none⟩ (.int .i64 0)).setCell ⟨g, 3, none⟩ (.string ⟨#[]⟩)
theorem pr_over0 {W : World} {g : Nat} {x : Hd.Pr} (h : PrAt W g 0 x) : (zeroed W g).cell? ⟨g, 0, none⟩ = some (.string ⟨#[]⟩) ∧ (zeroed W g).cell? ⟨g, 1, none⟩ = some (.int .u8 0) ∧ (zeroed W g).cell? ⟨g, 2, none⟩ = some (.int .i64 0) ∧ (zeroed W g).cell? ⟨g, 3, none⟩ = some (.string ⟨#[]⟩) := by
 have := pr_over h Hd.Pr.zero
 exact ⟨this.c0, this.c1, this.c2, this.c3⟩
theorem below_over {B g : Nat} {a W : World} (h : Below B a W) (hg : B ≤ g) (v0 v1 v2 v3 : Value) : Below B a ((((W.setCell ⟨g, 0, none⟩ v0).setCell ⟨g, 1, none⟩ v1).setCell ⟨g, 2, none⟩ v2).setCell ⟨g, 3, none⟩ v3) :=
 (((h.setCell hg _).setCell hg _).setCell hg _).setCell hg _

def first (l : List Hd.Pr) (k : List UInt8) : Hd.Pr := if Hd.there l k then Hd.pr l (idx (fun x => x.key == k) l).toNat else Hd.Pr.zero
def findV (l : List Hd.Pr) (k : List UInt8) : Value := .tuple #[prV (first l k), .bool (Hd.there l k)]
theorem there_idx (l : List Hd.Pr) (k : List UInt8) : Hd.there l k = decide (idx (fun x => x.key == k) l ≥ 0) := (idx_any _ _).symm
set_option maxRecDepth 100000 in
set_option maxHeartbeats 2000000 in
theorem hfind_any (l : List Hd.Pr) (A : Option Addr) (c : Nat) (k : List UInt8) (w : World) (hl : l.length ≤ 100000) (hp : Prs w A l) :
  Calls Tryz.prog 136 #[.slice A l.length c, .string (ofL k)] w fun e w' => e = .returned (findV l k) ∧ Below w.heap.size w w' := by
 have HP := hid hp
 have HC := hid (fun b W h hW => indexPr_any 147 b (Or.inl rfl) (fun x => x.key == k) l A c W hl hW (hfind1_tells k b W h))
 have HT := hid (there_idx l k)
 have HI := hid (idx_lt (fun x : Hd.Pr => x.key == k) l)
 have HV : Hid (findV l k = .tuple #[prV (if Hd.there l k then Hd.pr l (idx (fun x => x.key == k) l).toNat else Hd.Pr.zero), .bool (Hd.there l k)]) := rfl
 clear hp
 generalize findV l k = V at *
 generalize Hd.there l k = T at *
 generalize idx (fun x : Hd.Pr => x.key == k) l = M at *
 have HB0 := hid (show Below w.heap.size w ((w.alloc (.cells #[.string (ofL k)] 9)).alloc (.cells #[.string ⟨#[]⟩, .int .u8 0, .int .i64 0, .string ⟨#[]⟩] 142)) from ((Below.refl _ _).alloc (Nat.le_refl _) _).alloc (by simp) _)
 have HS0 := hid (show ((w.alloc (.cells #[.string (ofL k)] 9)).alloc (.cells #[.string ⟨#[]⟩, .int .u8 0, .int .i64 0, .string ⟨#[]⟩] 142)).cell? ⟨w.heap.size, 0, none⟩ = some (.string (ofL k)) from (cell_old _ _ _ _ (by simp)).trans (cell_new _ _ _ _ _ rfl))
 have HX0 := hid (show ∃ g, g = w.heap.size + 1 ∧ PrAt ((w.alloc (.cells #[.string (ofL k)] 9)).alloc (.cells #[.string ⟨#[]⟩, .int .u8 0, .int .i64 0, .string ⟨#[]⟩] 142)) g 0 Hd.Pr.zero ∧ ∀ j, ((w.alloc (.cells #[.string (ofL k)] 9)).alloc (.cells #[.string ⟨#[]⟩, .int .u8 0, .int .i64 0, .string ⟨#[]⟩] 142)).frozen? ⟨g, j, none⟩ = false from
  ⟨_, rfl, ⟨cell_new _ _ _ _ _ (by simp), cell_new _ _ _ _ _ (by simp), cell_new _ _ _ _ _ (by simp), cell_new _ _ _ _ _ (by simp)⟩, fun j => free_new _ _ _ _ _ (by simp)⟩)
 go_enter Tryz.func136, Tryz.ntmps136
 go_wp2_with fail
 with_reducible refine (HC.out _ _ HS0.out (HP.out.on HB0.out)).mono ?_
 rintro e w1 ⟨rfl, hB⟩
 obtain ⟨g, hg, ha, hf⟩ := HX0.out
 have hlt : g < ((w.alloc (.cells #[.string (ofL k)] 9)).alloc (.cells #[.string ⟨#[]⟩, .int .u8 0, .int .i64 0, .string ⟨#[]⟩] 142)).heap.size := by simp [hg]
 have hpa := ha.below hB hlt
 have HPA := hid hpa
 obtain ⟨c0, c1, c2, c3⟩ := hpa
 have hfz : ∀ j, w1.frozen? ⟨g, j, none⟩ = false := fun j => (hB.frozen (p := ⟨g, j, none⟩) hlt).trans (hf j)
 have hg1 : g < w1.heap.size := Nat.lt_of_lt_of_le hlt hB.size
 have HB1 := hid (bthen HB0.out hB (Nat.le_refl _))
 have HP1 := hid ((HP.out.on HB0.out).on hB)
 have HG := hid (show w.heap.size ≤ g by omega)
 rw [← hg]
 clear hB hg ha hf hlt
 by_cases hM : M < 0
 ·have hT : T = false := by rw [HT.out]; simp; omega
  have HVV := hid (show V = .tuple #[prV Hd.Pr.zero, .bool false] by rw [HV.out, hT]; rfl)
  have HO := hid (pr_over0 HPA.out)
  clear hT
  go_wp2_with fail
  obtain ⟨d0, d1, d2, d3⟩ := HO.out
  refine bodyPost_ret (v := .tuple #[.agg #[.string ⟨#[]⟩, .int .u8 0, .int .i64 0, .string ⟨#[]⟩], .bool false]) (by simp [results, Tryz.results136, go_sem, d0, d1, d2, d3]) rfl ⟨by rw [HVV.out]; rfl, below_over HB1.out HG.out _ _ _ _⟩
 ·have hT : T = true := by rw [HT.out]; simp; omega
  obtain ⟨i, hi⟩ : ∃ i : Nat, M = (i : Int) := ⟨M.toNat, by omega⟩
  have hil : i < l.length := by have := HI.out.2; omega
  have HVV := hid (show V = .tuple #[prV (Hd.pr l i), .bool true] by rw [HV.out, hT, hi]; rfl)
  obtain ⟨b, off, rfl, hbl, hat⟩ := HP1.out.at_ i hil
  obtain ⟨e0, e1, e2, e3⟩ := hat
  have HO := hid (pr_over HPA.out (Hd.pr l i))
  subst hi
  clear hT
  generalize Hd.pr l i = x at *
  obtain ⟨x1, x2, x3, x4⟩ := x
  simp only at e0 e1 e2 e3
  go_wp2_with fail
  obtain ⟨d0, d1, d2, d3⟩ := HO.out
  simp only [Nat.zero_add] at d0 d1 d2 d3
  refine bodyPost_ret (v := .tuple #[.agg #[.string (ofL x1), .int .u8 (x2 : Int), .int .i64 x3, .string (ofL x4)], .bool true]) (by simp [results, Tryz.results136, go_sem, d0, d1, d2, d3]) rfl ⟨by rw [HVV.out]; rfl, below_over HB1.out HG.out _ _ _ _⟩

/-! ### what is wrong with a pair -/
theorem pcode_of (p : Hd.Pr) (l : List Hd.Pr) : Hd.pcode p l = if Hd.bad p ≠ 0 then Hd.bad p else if Hd.there l p.key then 9 else 0 := rfl
theorem pcode_bad {p : Hd.Pr} {l : List Hd.Pr} {n : Nat} (h : Hd.bad p = n) (hn : n ≠ 0) : Hd.pcode p l = n := by rw [pcode_of, if_pos (by omega), h]
theorem pcode_good {p : Hd.Pr} {l : List Hd.Pr} (h : Hd.bad p = 0) (b : Bool) (hb : Hd.there l p.key = b) : Hd.pcode p l = if b then 9 else 0 := by rw [pcode_of, if_neg (by omega), hb]
end Go.Proofs.YtaikigponkjkgaaGreatDoor
end
