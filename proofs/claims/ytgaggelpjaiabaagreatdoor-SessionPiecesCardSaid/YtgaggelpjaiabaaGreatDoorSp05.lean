/-
  NAMES, walked: the program's and the document's. WHAT ROWS AND TEXTS ARE ASKED ALIKE: the first for which something holds; texts held against each other; a region whose order is drawn. HEADS IN MEMORY; pairs held against each other; the first pair for which something holds: walked. ROWS OF PAIRS held against each other; whether a pair is among others; the pair of a key; what is gone through: walked. A BLOCK's CELLS as a list: written one by one; carried along. THE PAIR OF A KEY; what is wrong with a pair, and with a head: walked, the program's and the document's.
-/
import Derived.Test.YtgaggelpjaiabaaGreatDoorSp03
import Derived.Test.YtgaggelpjaiabaaGreatDoorSp04
import Derived.WalkKit
import Derived.ProofKit
import Derived.Deep.RegionWith
import Derived.StillTailTactics
import Derived.Laws.StructEq
import Derived.Laws.IdiomStrings
import Derived.Deep.RegionHeld3
import Derived.Deep.QuietTactic
import Derived.OpenShut
import Derived.Below
import Derived.Deep.AppendLies
section
namespace Go.Proofs.YtgaggelpjaiabaaGreatDoor
open Go.ChangeShapes Go.WideShapes Go.ChangeAt Go.RowKit
theorem ret_nat {a b : Int} (h : a = b) : Ending.returned (.int .i64 a) = .returned (.int .i64 b) := by rw [h]
theorem name_0 {l : List UInt8} (h : l.length = 0) : Wrd.nameCode l = 15 := by unfold Wrd.nameCode; rw [if_pos h]
theorem name_long {l : List UInt8} (h : 16 < l.length) : Wrd.nameCode l = 5 := by unfold Wrd.nameCode; rw [if_neg (by omega), if_pos h]
theorem name_ok {l : List UInt8} (h0 : l.length ≠ 0) (h : ¬ 16 < l.length) (ha : l.all Wrd.mark = true) : Wrd.nameCode l = 0 := by unfold Wrd.nameCode; rw [if_neg h0, if_neg h, if_pos ha]
theorem name_form {l : List UInt8} (h0 : l.length ≠ 0) (h : ¬ 16 < l.length) (ha : l.all Wrd.mark = false) : Wrd.nameCode l = 4 := by unfold Wrd.nameCode; rw [if_neg h0, if_neg h, if_neg (by rw [ha]; simp)]
set_option maxHeartbeats 1000000 in
theorem name_any (l : List UInt8) (w : World) (hl : l.length ≤ 100000) : Calls Tryz.prog 130 #[.string (ofL l)] w fun e w' => e = .returned (.int .i64 (Wrd.nameCode l : Int)) ∧ w = w' := by
  have hsz : (ofL l).size = l.length := ofL_size l
  have HPL := Lib.hid (fun W => plain_any l W hl)
  by_cases h0 : l.length = 0
  · have HC := Lib.hid (name_0 h0)
    rw [ofL_nil h0]
    clear HPL
    go_enter Tryz.func130, Tryz.ntmps130
    go_wp2_with fail
    go_ret
    exact ⟨ret_nat (by rw [HC.out]; rfl), rfl⟩
  · have he := str_ne h0
    by_cases h1 : 16 < l.length
    · have HC := Lib.hid (name_long h1)
      have hs : 16 < (ofL l).size := by omega
      go_enter Tryz.func130, Tryz.ntmps130
      go_wp2_with fail
      go_ret
      exact ⟨ret_nat (by rw [HC.out]; rfl), rfl⟩
    · have hs : ¬ 16 < (ofL l).size := by omega
      cases ha : l.all Wrd.mark with
      | true =>
        have HC := Lib.hid (name_ok h0 h1 ha)
        have hp : Wrd.plain l = true := by unfold Wrd.plain; rw [ha]; simp; intro h; exact h0 (by rw [h]; rfl)
        rw [hp] at HPL
        clear ha hp
        go_enter Tryz.func130, Tryz.ntmps130
        go_wp2_with fail
        refine (HPL.out _).mono ?_
        rintro e w' ⟨rfl, rfl⟩
        go_wp2_with fail
        go_ret
        exact ⟨ret_nat (by rw [HC.out]; rfl), rfl⟩
      | false =>
        have HC := Lib.hid (name_form h0 h1 ha)
        have hp : Wrd.plain l = false := by unfold Wrd.plain; rw [ha]; rfl
        rw [hp] at HPL
        clear ha hp
        go_enter Tryz.func130, Tryz.ntmps130
        go_wp2_with fail
        refine (HPL.out _).mono ?_
        rintro e w' ⟨rfl, rfl⟩
        go_wp2_with fail
        go_ret
        exact ⟨ret_nat (by rw [HC.out]; rfl), rfl⟩
end Go.Proofs.YtgaggelpjaiabaaGreatDoor
end
section
namespace Go.Proofs.YtgaggelpjaiabaaGreatDoor
open Go.ChangeShapes Go.WideShapes Go.ChangeAt Go.RowKit
theorem str_list (x : List UInt8) : (ofL x).toList = x := by rw [ByteArray.toList_eq]; rfl
theorem str_same (x y : List UInt8) : ((ofL x).toList == (ofL y).toList) = (x == y) := by rw [str_list, str_list]
theorem cast_beq (a b : Nat) : (((a : Int)) == (b : Int)) = (a == b) := by rw [Bool.eq_iff_iff]; simp only [beq_iff_eq]; omega
/-! ### the first for which something holds -/
def idx {α : Type} (q : α → Bool) (l : List α) : Int := match l.findIdx? q with | some i => (i : Int) | none => -1
theorem idx_none {α : Type} {q : α → Bool} {l : List α} (z : α) (h : ∀ i, i < l.length → q (l.getD i z) = false) : idx q l = -1 := by
  unfold idx
  rw [List.findIdx?_eq_none_iff.2]
  intro x hx
  obtain ⟨i, hi, rfl⟩ := List.getElem_of_mem hx
  have := h i hi
  rwa [List.getD_eq_getElem?_getD, List.getElem?_eq_getElem hi] at this
theorem idx_some {α : Type} {q : α → Bool} {l : List α} (z : α) {k : Nat} (hk : k < l.length) (h : ∀ i, i < k → q (l.getD i z) = false) (hq : q (l.getD k z) = true) : idx q l = k := by
  unfold idx
  have : l.findIdx? q = some k := by
    rw [List.findIdx?_eq_some_iff_getElem]
    refine ⟨hk, ?_, fun j hj => ?_⟩
    · rwa [List.getD_eq_getElem?_getD, List.getElem?_eq_getElem hk] at hq
    · have := h j hj
      rw [List.getD_eq_getElem?_getD, List.getElem?_eq_getElem (by omega)] at this
      have h2 : q l[j] = false := this
      rw [h2]; simp
  rw [this]
theorem idx_any {α : Type} (q : α → Bool) (l : List α) : decide (idx q l ≥ 0) = l.any q := by
  unfold idx
  cases h : l.findIdx? q with
  | none =>
    have := List.findIdx?_eq_none_iff.1 h
    have h2 : l.any q = false := by rw [List.any_eq_false]; intro x hx; rw [this x hx]; simp
    rw [h2]; simp
  | some i =>
    obtain ⟨hi, hq, _⟩ := List.findIdx?_eq_some_iff_getElem.1 h
    have h2 : l.any q = true := List.any_eq_true.2 ⟨_, List.getElem_mem hi, hq⟩
    rw [h2]; simp
theorem idx_lt {α : Type} (q : α → Bool) (l : List α) : -1 ≤ idx q l ∧ idx q l < l.length := by
  unfold idx
  cases h : l.findIdx? q with
  | none => simp; omega
  | some i =>
    obtain ⟨hi, _⟩ := List.findIdx?_eq_some_iff_getElem.1 h
    simp only; omega
/-- a region whose order is drawn, all of whose operations but the last ones only read -/
theorem region_tail {P : Program} {id : Nat} {Q : Exit → Act → World → Prop} {a : Act} {w : World} {l : List Oper} (n : Nat) (hm : P.follows .mixedOrders = true) (hB : Region.lexTailB .any l.toArray n = true)
    (h : wpStill P l.toArray w.drew (fun a' => wpList P l.toArray Q (l.drop n) a' w.drew) (l.take n) a) : (Code.region id l.toArray true).wp P Q a w := wp_region_still_tail n hm hB h
end Go.Proofs.YtgaggelpjaiabaaGreatDoor
end
section
namespace Go.Proofs.YtgaggelpjaiabaaGreatDoor
open Go.ChangeShapes Go.WideShapes Go.ChangeAt Go.RowKit
/-- a pair's cells -/
structure PrAt (w : World) (b o : Nat) (x : Hd.Pr) : Prop where
  c0 : w.cell? ⟨b, o, none⟩ = some (.string (ofL x.key))
  c1 : w.cell? ⟨b, o + 1, none⟩ = some (.int .u8 (x.kind : Int))
  c2 : w.cell? ⟨b, o + 2, none⟩ = some (.int .i64 x.num)
  c3 : w.cell? ⟨b, o + 3, none⟩ = some (.string (ofL x.txt))
/-- a head lies there -/
structure Prs (w : World) (A : Option Addr) (l : List Hd.Pr) : Prop where
  at_ : ∀ i, i < l.length → ∃ b off, A = some ⟨b, off, none⟩ ∧ b < w.heap.size ∧ PrAt w b (off + i * 4) (Hd.pr l i)
theorem PrAt.below {w w' : World} {B b o : Nat} {x : Hd.Pr} (h : PrAt w b o x) (hb : Below B w w') (hB : b < B) : PrAt w' b o x :=
  ⟨(hb.cell (p := ⟨b, o, none⟩) hB).trans h.c0, (hb.cell (p := ⟨b, o + 1, none⟩) hB).trans h.c1, (hb.cell (p := ⟨b, o + 2, none⟩) hB).trans h.c2, (hb.cell (p := ⟨b, o + 3, none⟩) hB).trans h.c3⟩
theorem Prs.on {w w' : World} {A : Option Addr} {l : List Hd.Pr} (h : Prs w A l) (hb : Below w.heap.size w w') : Prs w' A l := ⟨fun i hi => by
  obtain ⟨b, off, hA, hlt, hat⟩ := h.at_ i hi
  exact ⟨b, off, hA, Nat.lt_of_lt_of_le hlt hb.size, hat.below hb hlt⟩⟩
theorem Prs.nil (w : World) (A : Option Addr) : Prs w A [] := ⟨fun i hi => absurd hi (by simp)⟩
theorem pr_take {l : List Hd.Pr} {k i : Nat} (h : i < k) : Hd.pr (l.take k) i = Hd.pr l i := by
  unfold Hd.pr
  simp only [List.getD_eq_getElem?_getD]
  rw [List.getElem?_take, if_pos h]
theorem Prs.take {w : World} {A : Option Addr} {l : List Hd.Pr} (h : Prs w A l) (k : Nat) : Prs w A (l.take k) := ⟨fun i hi => by
  rw [List.length_take] at hi
  rw [pr_take (by omega)]
  exact h.at_ i (by omega)⟩
def prV (x : Hd.Pr) : Value := .agg #[.string (ofL x.key), .int .u8 (x.kind : Int), .int .i64 x.num, .string (ofL x.txt)]
def prL (x : Hd.Pr) : List Value := [.string (ofL x.key), .int .u8 (x.kind : Int), .int .i64 x.num, .string (ofL x.txt)]
def prs (l : List Hd.Pr) : List Value := l.flatMap prL
theorem prs_snoc (l : List Hd.Pr) (x : Hd.Pr) : prs (l ++ [x]) = prs l ++ prL x := by unfold prs; rw [List.flatMap_append]; simp
theorem prs_len (l : List Hd.Pr) : (prs l).length = l.length * 4 := Rw.flat_len prL 4 (fun _ => rfl) l
theorem rown_prs {w : World} {B E : Nat} {v : Value} {l : List Hd.Pr} (h : w.ownsRow B E 4 v l.length (prs l)) :
    ∃ A c, v = .slice A l.length c ∧ l.length ≤ c ∧ (A = none → c = 0) ∧ Prs w A l := by
  obtain ⟨A, c, rfl, hc, hb, hx⟩ := Rw.own_cells h
  refine ⟨A, c, rfl, hc, ?_, ⟨fun i hi => ?_⟩⟩
  · rintro rfl
    rcases h.2 with ⟨e, _⟩ | ⟨g, cap, cur, e, _⟩
    · exact (Value.slice.inj e).2.2
    · exact absurd (Value.slice.inj e).1 (by simp)
  · obtain ⟨g, rfl, hg, hcell⟩ := hx (by omega)
    have at_ : ∀ t, t < 4 → w.cell? ⟨g, i * 4 + t, none⟩ = (prL l[i])[t]? := fun t ht => by
      rw [hcell _ (by omega)]
      exact Rw.flat_get prL 4 (fun _ => rfl) (by omega) l i t hi ht
    refine ⟨g, 0, rfl, hg, ?_⟩
    rw [Hd.pr_at hi, Nat.zero_add]
    exact ⟨at_ 0 (by omega), at_ 1 (by omega), at_ 2 (by omega), at_ 3 (by omega)⟩
theorem infoPr : (Tryz.prog.info? 94).map (fun i => (i.zero, i.size, i.bytes)) = some (some (.agg #[.string ⟨#[]⟩, .int .u8 0, .int .i64 0, .string ⟨#[]⟩]), 4, 48) := by kernel_rfl

/-! ### two pairs -/
theorem guardPr : Tryz.prog.eqGuardType Tryz.prog.depth 94 = false := by kernel_rfl
theorem stoodPr : Tryz.prog.stoodInHeld 94 = false := by kernel_rfl
theorem fieldsPr : Tryz.prog.fieldsOf 94 = #[⟨"Key", 9, 0, false, "", "", 0⟩, ⟨"Kind", 5, 1, false, "", "", 16⟩, ⟨"Num", 2, 2, false, "", "", 24⟩, ⟨"Text", 9, 3, false, "", "", 32⟩] := by kernel_rfl
def prEq (x y : Hd.Pr) : Bool := (x.key == y.key) && (x.kind == y.kind) && (x.num == y.num) && (x.txt == y.txt)
theorem prEq_iff (x y : Hd.Pr) : prEq x y = decide (x = y) := by
  obtain ⟨a, b, c, d⟩ := x
  obtain ⟨a', b', c', d'⟩ := y
  rw [Bool.eq_iff_iff]
  simp [prEq, and_assoc]
theorem pr_eql (a : ByteArray) (b c : Int) (d : ByteArray) (a' : ByteArray) (b' c' : Int) (d' : ByteArray) (W : World) : (Op.equalIn 10000 94 (.agg #[.string a, .int .u8 b, .int .i64 c, .string d]) (.agg #[.string a', .int .u8 b', .int .i64 c', .string d'])).run Tryz.prog W = .ok ((a.toList == a'.toList) && (b == b') && (c == c') && (d.toList == d'.toList)) W := by
  rw [run_equalIn_agg (ht := by kernel_rfl) (hp := stoodPr), fieldsPr]
  simp [Op.eqFields, go_sem, Tryz.underlying5, Tryz.underlying9, Tryz.underlying2]
  by_cases h1 : a.toList = a'.toList <;> by_cases h2 : b = b' <;> by_cases h3 : c = c' <;> by_cases h4 : d.toList = d'.toList <;> simp [h1, h2, h3, h4]
theorem pr_bool (x y : Hd.Pr) : (((ofL x.key).toList == (ofL y.key).toList) && ((x.kind : Int) == (y.kind : Int)) && (x.num == y.num) && ((ofL x.txt).toList == (ofL y.txt).toList)) = prEq x y := by
  rw [str_same, str_same, cast_beq]; rfl
theorem pr_eq (x y : Hd.Pr) (W : World) : (Op.equalIn 10000 94 (prV x) (prV y)).run Tryz.prog W = .ok (prEq x y) W := by
  rw [← pr_bool]
  exact pr_eql _ _ _ _ _ _ _ _ W

theorem hfind1_any (y : Hd.Pr) (s : List UInt8) (b : Nat) (w : World) (h : w.cell? ⟨b, 0, none⟩ = some (.string (ofL s))) : Calls Tryz.prog 172 #[prV y, .pointer (some ⟨b, 0, none⟩)] w fun e w' => e = .returned (.bool (y.key == s)) ∧ Below w.heap.size w w' := by
  have hbl := World.block_lt_of_cell? w _ h
  simp only at hbl
  obtain ⟨yn, yl, ys, yb⟩ := y
  have HN := str_same yn s
  generalize (yn == s) = B at *
  simp only [prV] at *
  go_enter Tryz.func172, Tryz.ntmps172
  go_wp2_with fail
  go_ret
  exact ⟨rfl, (Below.refl _ _).alloc (Nat.le_refl _) _⟩
/-- a closure that tells of a pair, and writes nothing that was there -/
def TellsPr (f : Nat) (c : Array Value) (q : Hd.Pr → Bool) (w : World) : Prop :=
  ∀ (W : World) (x : Hd.Pr), Below w.heap.size w W → Calls Tryz.prog f (#[prV x] ++ c) W fun e w' => e = .returned (.bool (q x)) ∧ Below W.heap.size W w'
def IdxPr (q : Hd.Pr → Bool) (l : List Hd.Pr) (w : World) (g : Nat) (i : Value) (wr : World) : Prop :=
  ∃ k : Nat, k + g = l.length ∧ i = .int .i64 (k : Int) ∧ (∀ j, j < k → q (l.getD j Hd.Pr.zero) = false) ∧ Below w.heap.size w wr
theorem hfind1_tells (s : List UInt8) (b : Nat) (w : World) (h : w.cell? ⟨b, 0, none⟩ = some (.string (ofL s))) : TellsPr 172 #[.pointer (some ⟨b, 0, none⟩)] (fun x => x.key == s) w := fun W x hB =>
  hfind1_any x s b W ((hB.cell (p := ⟨b, 0, none⟩) (World.block_lt_of_cell? w _ h)).trans h)
/-- the other closure that is looked with, where there is one -/
def hasOneN : Nat :=
  178
set_option maxHeartbeats 2000000 in
theorem indexPr_any (f : Nat) (b : Nat) (hf : f = 172 ∨ f = hasOneN) (q : Hd.Pr → Bool) (l : List Hd.Pr) (A : Option Addr) (c : Nat) (w : World) (hl : l.length ≤ 100000) (hp : Prs w A l) (ht : TellsPr f #[.pointer (some ⟨b, 0, none⟩)] q w) :
    Calls Tryz.prog 171 #[.slice A l.length c, .func (.func f) #[] #[.pointer (some ⟨b, 0, none⟩)]] w fun e w' => e = .returned (.int .i64 (idx q l)) ∧ Below w.heap.size w w' := by
  have HP := Lib.hid hp
  unfold hasOneN at hf
  have HT := Lib.hid ht
  have HNONE := Lib.hid (fun h => idx_none (q := q) (l := l) Hd.Pr.zero h)
  have HSOME := Lib.hid (fun k (hk : k < l.length) h hq => idx_some (q := q) (l := l) Hd.Pr.zero hk h hq)
  clear hp ht
  generalize idx q l = M at *
  obtain ⟨n, hn⟩ : ∃ n, n = l.length := ⟨_, rfl⟩
  rw [← hn]
  have HN := Lib.hid hn
  have hnl : n ≤ 100000 := by omega
  clear hn
  rcases hf with rfl | rfl
  all_goals
    go_enter Tryz.func171, Tryz.ntmps171
    go_wp2_with fail
    go_loopg [8] n (fun g i wr => IdxPr q l w g i wr)
    case atStart => exact ⟨0, by have := HN.out; omega, rfl, fun j hj => absurd hj (by omega), Below.refl _ _⟩
    case round =>
      obtain ⟨k, hk, rfl, hno, hB⟩ := hrel
      have HB := Lib.hid hB
      have HNO := Lib.hid hno
      have HK := Lib.hid hk
      clear hB hno hk
      by_cases hlt : k < n
      · obtain ⟨b, off, rfl, hbl, hat⟩ := (HP.out.on HB.out).at_ k (by have := HN.out; omega)
        obtain ⟨c0, c1, c2, c3⟩ := hat
        have HC := Lib.hid (HT.out wr (Hd.pr l k) HB.out)
        have HQ : Hid (∀ h, q (Hd.pr l k) = true → M = (k : Int)) := fun h hq => HSOME.out k (by have := HN.out; omega) h hq
        cases hq : q (Hd.pr l k) with
        | true =>
          have HM := Lib.hid (HQ.out HNO.out hq)
          rw [hq] at HC
          clear hq
          generalize Hd.pr l k = x at *
          obtain ⟨xn, xl, xs, xb⟩ := x
          simp only [prV] at HC c0 c1 c2 c3
          go_wp2_with fail
          refine HC.out.mono ?_
          rintro e w' ⟨rfl, hB1⟩
          have HB1 := Lib.hid (HB.out.trans (hB1.mono HB.out.size))
          clear hB1
          go_wp2_with fail
          go_ret
          exact ⟨ret_nat HM.out.symm, HB1.out⟩
        | false =>
          have HNEXT : Hid (∀ j, j < k + 1 → q (l.getD j Hd.Pr.zero) = false) := fun j hj => by
            by_cases e : j = k
            · rw [e]; exact hq
            · exact HNO.out j (by omega)
          rw [hq] at HC
          clear hq
          generalize Hd.pr l k = x at *
          obtain ⟨xn, xl, xs, xb⟩ := x
          simp only [prV] at HC c0 c1 c2 c3
          go_wp2_with fail
          refine HC.out.mono ?_
          rintro e w' ⟨rfl, hB1⟩
          have HB1 := Lib.hid (HB.out.trans (hB1.mono HB.out.size))
          clear hB1
          go_wp2_with fail
          go_roundg (gk - 1)
          case rel => exact ⟨k + 1, by have := HK.out; have := HN.out; omega, by go_num, HNEXT.out, HB1.out⟩
          case measure => have := HK.out; have := HN.out; omega
      · have HM := Lib.hid (HNONE.out (fun i hi => HNO.out i (by have := HN.out; omega)))
        go_wp2_with fail
        go_ret
        exact ⟨ret_nat HM.out.symm, HB.out⟩
end Go.Proofs.YtgaggelpjaiabaaGreatDoor
end
section
namespace Go.Proofs.YtgaggelpjaiabaaGreatDoor
open Go.ChangeShapes Go.WideShapes Go.ChangeAt Go.RowKit
theorem same_len {l m : List Hd.Pr} (h : l.length ≠ m.length) : decide (l = m) = false := decide_eq_false fun e => h (by rw [e])
theorem same_not {l m : List Hd.Pr} {k : Nat} (h : prEq (Hd.pr l k) (Hd.pr m k) = false) : decide (l = m) = false := decide_eq_false fun e => by
  subst e
  rw [prEq_iff] at h
  simp at h
theorem same_yes {l m : List Hd.Pr} (h : l.length = m.length) (g : ∀ j, j < l.length → prEq (Hd.pr l j) (Hd.pr m j) = true) : decide (l = m) = true := decide_eq_true (by
  refine List.ext_getElem h fun i h1 h2 => ?_
  have := g i h1
  rw [prEq_iff, Hd.pr_at h1, Hd.pr_at h2] at this
  exact of_decide_eq_true this)
attribute [local go_sem] guardPr
set_option maxHeartbeats 2000000 in
theorem equalPr_any (l m : List Hd.Pr) (A : Option Addr) (c : Nat) (B : Option Addr) (d : Nat) (w : World) (hl : l.length ≤ 100000) (hm : m.length ≤ 100000) (hA : Prs w A l) (hB : Prs w B m) :
    Calls Tryz.prog 63 #[.slice A l.length c, .slice B m.length d] w fun e w' => e = .returned (.bool (decide (l = m))) ∧ Below w.heap.size w w' := by
  have HA := Lib.hid hA
  have HB := Lib.hid hB
  have HNE := Lib.hid (fun h => same_len (l := l) (m := m) h)
  have HNO := Lib.hid (fun k h => same_not (l := l) (m := m) (k := k) h)
  have HYES := Lib.hid (fun h g => same_yes (l := l) (m := m) h g)
  clear hA hB
  generalize decide (l = m) = M at *
  obtain ⟨n, hn⟩ : ∃ n, n = l.length := ⟨_, rfl⟩
  obtain ⟨o, ho⟩ : ∃ o, o = m.length := ⟨_, rfl⟩
  rw [← hn, ← ho]
  have HN := Lib.hid hn
  have HO := Lib.hid ho
  have hnl : n ≤ 100000 := by omega
  have hol : o ≤ 100000 := by omega
  clear hn ho
  by_cases hlen : n = o
  · have HLEN := Lib.hid hlen
    have hlen2 : ((n : Int) != (o : Int)) = false := by rw [hlen]; simp
    go_enter Tryz.func63, Tryz.ntmps63
    go_wp2_with fail
    clear hlen hlen2
    go_loopg [13] n (fun g i wr => ∃ k : Nat, k + g = n ∧ i = .int .i64 (k : Int) ∧ (∀ j, j < k → prEq (Hd.pr l j) (Hd.pr m j) = true) ∧ Below w.heap.size w wr)
    case atStart => exact ⟨0, by omega, rfl, fun j hj => absurd hj (by omega), Below.refl _ _⟩
    case round =>
      obtain ⟨k, hk, rfl, hno, hBl⟩ := hrel
      have HBL := Lib.hid hBl
      have HALL := Lib.hid hno
      clear hBl hno
      by_cases hlt : k < n
      · obtain ⟨b, off, rfl, hbl, hat⟩ := (HA.out.on HBL.out).at_ k (by have := HN.out; omega)
        obtain ⟨b2, off2, rfl, hbl2, hat2⟩ := (HB.out.on HBL.out).at_ k (by have := HLEN.out; have := HO.out; omega)
        obtain ⟨c0, c1, c2, c3⟩ := hat
        obtain ⟨d0, d1, d2, d3⟩ := hat2
        have hlt2 : k < o := by have := HLEN.out; omega
        have hq := fun W => pr_eq (Hd.pr l k) (Hd.pr m k) W
        cases he : prEq (Hd.pr l k) (Hd.pr m k) with
        | true =>
          have HNEXT : Hid (∀ j, j < k + 1 → prEq (Hd.pr l j) (Hd.pr m j) = true) := fun j hj => by
            by_cases e : j = k
            · rw [e]; exact he
            · exact HALL.out j (by omega)
          rw [he] at hq
          clear he
          generalize Hd.pr l k = x at *
          generalize Hd.pr m k = y at *
          obtain ⟨x1, x2, x3, x4⟩ := x
          obtain ⟨y1, y2, y3, y4⟩ := y
          simp only [prV] at hq c0 c1 c2 c3 d0 d1 d2 d3
          go_wp2_with fail
          go_quiet (fail)
          go_wp2_with fail
          go_roundg (gk - 1)
          case rel => exact ⟨k + 1, by omega, by go_num, HNEXT.out, drewN_below HBL.out _⟩
          case measure => omega
        | false =>
          have HM := Lib.hid (HNO.out k he)
          rw [he] at hq
          clear he
          generalize Hd.pr l k = x at *
          generalize Hd.pr m k = y at *
          obtain ⟨x1, x2, x3, x4⟩ := x
          obtain ⟨y1, y2, y3, y4⟩ := y
          simp only [prV] at hq c0 c1 c2 c3 d0 d1 d2 d3
          go_wp2_with fail
          go_quiet (fail)
          go_wp2_with fail
          go_ret
          exact ⟨ret_bool HM.out.symm, drewN_below HBL.out _⟩
      · have HM := Lib.hid (HYES.out (by have := HLEN.out; have := HN.out; have := HO.out; omega) (fun j hj => HALL.out j (by have := HN.out; omega)))
        have hlt2 : ¬ k < o := by have := HLEN.out; omega
        go_wp2_with fail
        go_ret
        exact ⟨ret_bool HM.out.symm, HBL.out⟩
  · have HM := Lib.hid (HNE.out (by have := HN.out; have := HO.out; omega))
    have hlen2 : ((n : Int) != (o : Int)) = true := by rw [bne_iff_ne]; omega
    clear hlen
    go_enter Tryz.func63, Tryz.ntmps63
    go_wp2_with fail
    go_ret
    exact ⟨ret_bool HM.out.symm, Below.refl _ _⟩
theorem hsame_any (l m : List Hd.Pr) (A : Option Addr) (c : Nat) (B : Option Addr) (d : Nat) (w : World) (hl : l.length ≤ 100000) (hm : m.length ≤ 100000) (hA : Prs w A l) (hB : Prs w B m) :
    Calls Tryz.prog 35 #[.slice A l.length c, .slice B m.length d] w fun e w' => e = .returned (.bool (decide (l = m))) ∧ Below w.heap.size w w' := by
  have HC := Lib.hid (equalPr_any l m A c B d w hl hm hA hB)
  generalize decide (l = m) = M at *
  go_enter Tryz.func35, Tryz.ntmps35
  go_wp2_with fail
  refine HC.out.mono ?_
  rintro e w1 ⟨rfl, hB1⟩
  have HB1 := Lib.hid hB1
  clear hB1
  go_wp2_with fail
  go_ret
  exact ⟨rfl, HB1.out⟩
end Go.Proofs.YtgaggelpjaiabaaGreatDoor
end
section
namespace Go.Proofs.YtgaggelpjaiabaaGreatDoor
open Go.ChangeShapes Go.WideShapes Go.ChangeAt Go.RowKit
/-- block q holds these, from its front -/
def Cels (W : World) (q : Nat) (xs : List Value) : Prop := ∀ j x, xs[j]? = some x → W.cell? ⟨q, j, none⟩ = some x
theorem Cels.on {W W' : World} {B q : Nat} {xs : List Value} (h : Cels W q xs) (hb : Below B W W') (hq : q < B) : Cels W' q xs := fun j x hj => (hb.cell (p := ⟨q, j, none⟩) hq).trans (h j x hj)
theorem Cels.put {W : World} {q : Nat} {xs : List Value} (h : Cels W q xs) (j : Nat) (v : Value) (hj : j < xs.length) : Cels (W.setCell ⟨q, j, none⟩ v) q (xs.set j v) := fun i x hi => by
  rw [List.getElem?_set] at hi
  by_cases e : j = i
  · subst e
    rw [if_pos rfl, if_pos hj] at hi
    obtain rfl := Option.some.inj hi
    exact World.cell?_setCell_same W ⟨q, j, none⟩ _ (h j xs[j] (List.getElem?_eq_getElem hj))
  · rw [if_neg e] at hi
    exact (World.cell?_setCell_other W ⟨q, j, none⟩ ⟨q, i, none⟩ _ (by simp only [ne_eq, Addr.mk.injEq, not_and]; omega)).trans (h i x hi)
theorem Cels.aside {W : World} {q : Nat} {xs : List Value} (h : Cels W q xs) {g : Nat} (hg : g ≠ q) (j : Nat) (v : Value) : Cels (W.setCell ⟨g, j, none⟩ v) q xs := fun i x hi =>
  (World.cell?_setCell_other W ⟨g, j, none⟩ ⟨q, i, none⟩ _ (by simp only [ne_eq, Addr.mk.injEq, not_and]; omega)).trans (h i x hi)
theorem Cels.new (W : World) (c : Array Value) (t : TypeId) : Cels (W.alloc (.cells c t)) W.heap.size c.toList := fun j x hj => (World.cell?_alloc_new W c t j).trans (by simpa using hj)
theorem Cels.grown {W W' : World} {q : Nat} {row : Option Nat} {xs : List Value} (h : Cels W q xs) (hg : W.grownBy W' row) (hne : some q ≠ row) : Cels W' q xs := fun j x hj => hg.cell (h j x hj) hne
/-- nothing of block q is frozen -/
def Soft (W : World) (q : Nat) : Prop := ∀ j, W.frozen? ⟨q, j, none⟩ = false
theorem Soft.on {W W' : World} {B q : Nat} (h : Soft W q) (hb : Below B W W') (hq : q < B) : Soft W' q := fun j => (hb.frozen (p := ⟨q, j, none⟩) hq).trans (h j)
theorem Soft.put {W : World} {q : Nat} (h : Soft W q) (p : Addr) (v : Value) : Soft (W.setCell p v) q := fun j => (World.frozen?_setCell W p ⟨q, j, none⟩ v).trans (h j)
theorem Soft.new (W : World) (c : Array Value) (t : TypeId) : Soft (W.alloc (.cells c t)) W.heap.size := fun j => by simp
theorem Soft.grown {W W' : World} {q : Nat} {row : Option Nat} (h : Soft W q) (hg : W.grownBy W' row) (hq : q < W.heap.size) (hne : some q ≠ row) : Soft W' q := fun j => (World.grownBy.frozen_far hg ⟨q, j, none⟩ hq hne).trans (h j)
end Go.Proofs.YtgaggelpjaiabaaGreatDoor
end
section
namespace Go.Proofs.YtgaggelpjaiabaaGreatDoor
open Go.ChangeShapes Go.WideShapes Go.ChangeAt Go.RowKit
theorem prCels {W : World} {g : Nat} {x : Hd.Pr} (h : PrAt W g 0 x) : Cels W g (prL x) := fun j v hj => by
  match j, hj with
  | 0, hj => obtain rfl := Option.some.inj hj; exact h.c0
  | 1, hj => obtain rfl := Option.some.inj hj; exact h.c1
  | 2, hj => obtain rfl := Option.some.inj hj; exact h.c2
  | 3, hj => obtain rfl := Option.some.inj hj; exact h.c3
theorem prOf {W : World} {g : Nat} {x : Hd.Pr} (h : Cels W g (prL x)) : PrAt W g 0 x := ⟨h 0 _ rfl, h 1 _ rfl, h 2 _ rfl, h 3 _ rfl⟩
theorem PrAt.new (x : Hd.Pr) (W : World) : PrAt (W.alloc (.cells #[.string (ofL x.key), .int .u8 (x.kind : Int), .int .i64 x.num, .string (ofL x.txt)] 94)) W.heap.size 0 x := prOf (Cels.new W _ _)
/-- a pair is written over another one, field by field -/
theorem pr_over {W : World} {g : Nat} {x : Hd.Pr} (h : PrAt W g 0 x) (y : Hd.Pr) : PrAt ((((W.setCell ⟨g, 0, none⟩ (.string (ofL y.key))).setCell ⟨g, 1, none⟩ (.int .u8 (y.kind : Int))).setCell ⟨g, 2, none⟩ (.int .i64 y.num)).setCell ⟨g, 3, none⟩ (.string (ofL y.txt))) g 0 y :=
  prOf ((((prCels h).put 0 _ (by simp [prL])).put 1 _ (by simp [prL])).put 2 _ (by simp [prL]) |>.put 3 _ (by simp [prL]))
abbrev zeroed (W : World) (g : Nat) : World := (((W.setCell ⟨g, 0, none⟩ (.string ⟨#[]⟩)).setCell ⟨g, 1, none⟩ (.int .u8 0)).setCell ⟨g, 2, none⟩ (.int .i64 0)).setCell ⟨g, 3, none⟩ (.string ⟨#[]⟩)
theorem pr_over0 {W : World} {g : Nat} {x : Hd.Pr} (h : PrAt W g 0 x) : (zeroed W g).cell? ⟨g, 0, none⟩ = some (.string ⟨#[]⟩) ∧ (zeroed W g).cell? ⟨g, 1, none⟩ = some (.int .u8 0) ∧ (zeroed W g).cell? ⟨g, 2, none⟩ = some (.int .i64 0) ∧ (zeroed W g).cell? ⟨g, 3, none⟩ = some (.string ⟨#[]⟩) := by
  have := pr_over h Hd.Pr.zero
  exact ⟨this.c0, this.c1, this.c2, this.c3⟩
theorem below_over {B g : Nat} {a W : World} (h : Below B a W) (hg : B ≤ g) (v0 v1 v2 v3 : Value) : Below B a ((((W.setCell ⟨g, 0, none⟩ v0).setCell ⟨g, 1, none⟩ v1).setCell ⟨g, 2, none⟩ v2).setCell ⟨g, 3, none⟩ v3) :=
  (((h.setCell hg _).setCell hg _).setCell hg _).setCell hg _

/-- the first pair of a key, or the zero one -/
def first (l : List Hd.Pr) (k : List UInt8) : Hd.Pr := if Hd.there l k then Hd.pr l (idx (fun x => x.key == k) l).toNat else Hd.Pr.zero
/-- what Find answers -/
def findV (l : List Hd.Pr) (k : List UInt8) : Value := .tuple #[prV (first l k), .bool (Hd.there l k)]
theorem there_idx (l : List Hd.Pr) (k : List UInt8) : Hd.there l k = decide (idx (fun x => x.key == k) l ≥ 0) := (idx_any _ _).symm
set_option maxRecDepth 100000 in
set_option maxHeartbeats 2000000 in
theorem hfind_any (l : List Hd.Pr) (A : Option Addr) (c : Nat) (k : List UInt8) (w : World) (hl : l.length ≤ 100000) (hp : Prs w A l) :
    Calls Tryz.prog 153 #[.slice A l.length c, .string (ofL k)] w fun e w' => e = .returned (findV l k) ∧ Below w.heap.size w w' := by
  have HP := Lib.hid hp
  have HC := Lib.hid (fun b W h hW => indexPr_any 172 b (Or.inl rfl) (fun x => x.key == k) l A c W hl hW (hfind1_tells k b W h))
  have HT := Lib.hid (there_idx l k)
  have HI := Lib.hid (idx_lt (fun x : Hd.Pr => x.key == k) l)
  have HV : Hid (findV l k = .tuple #[prV (if Hd.there l k then Hd.pr l (idx (fun x => x.key == k) l).toNat else Hd.Pr.zero), .bool (Hd.there l k)]) := rfl
  clear hp
  generalize findV l k = V at *
  generalize Hd.there l k = T at *
  generalize idx (fun x : Hd.Pr => x.key == k) l = M at *
  have HB0 := Lib.hid (show Below w.heap.size w ((w.alloc (.cells #[.string (ofL k)] 9)).alloc (.cells #[.string ⟨#[]⟩, .int .u8 0, .int .i64 0, .string ⟨#[]⟩] 94)) from ((Below.refl _ _).alloc (Nat.le_refl _) _).alloc (by simp) _)
  have HS0 := Lib.hid (show ((w.alloc (.cells #[.string (ofL k)] 9)).alloc (.cells #[.string ⟨#[]⟩, .int .u8 0, .int .i64 0, .string ⟨#[]⟩] 94)).cell? ⟨w.heap.size, 0, none⟩ = some (.string (ofL k)) from (cell_old _ _ _ _ (by simp)).trans (cell_new _ _ _ _ _ rfl))
  have HX0 := Lib.hid (show ∃ g, g = w.heap.size + 1 ∧ PrAt ((w.alloc (.cells #[.string (ofL k)] 9)).alloc (.cells #[.string ⟨#[]⟩, .int .u8 0, .int .i64 0, .string ⟨#[]⟩] 94)) g 0 Hd.Pr.zero ∧ ∀ j, ((w.alloc (.cells #[.string (ofL k)] 9)).alloc (.cells #[.string ⟨#[]⟩, .int .u8 0, .int .i64 0, .string ⟨#[]⟩] 94)).frozen? ⟨g, j, none⟩ = false from
    ⟨_, rfl, ⟨cell_new _ _ _ _ _ (by simp), cell_new _ _ _ _ _ (by simp), cell_new _ _ _ _ _ (by simp), cell_new _ _ _ _ _ (by simp)⟩, fun j => free_new _ _ _ _ _ (by simp)⟩)
  go_enter Tryz.func153, Tryz.ntmps153
  go_wp2_with fail
  with_reducible refine (HC.out _ _ HS0.out (HP.out.on HB0.out)).mono ?_
  rintro e w1 ⟨rfl, hB⟩
  obtain ⟨g, hg, ha, hf⟩ := HX0.out
  have hlt : g < ((w.alloc (.cells #[.string (ofL k)] 9)).alloc (.cells #[.string ⟨#[]⟩, .int .u8 0, .int .i64 0, .string ⟨#[]⟩] 94)).heap.size := by simp [hg]
  have hpa := ha.below hB hlt
  have HPA := Lib.hid hpa
  obtain ⟨c0, c1, c2, c3⟩ := hpa
  have hfz : ∀ j, w1.frozen? ⟨g, j, none⟩ = false := fun j => (hB.frozen (p := ⟨g, j, none⟩) hlt).trans (hf j)
  have hg1 : g < w1.heap.size := Nat.lt_of_lt_of_le hlt hB.size
  have HB1 := Lib.hid (bthen HB0.out hB (Nat.le_refl _))
  have HP1 := Lib.hid ((HP.out.on HB0.out).on hB)
  have HG := Lib.hid (show w.heap.size ≤ g by omega)
  rw [← hg]
  clear hB hg ha hf hlt
  by_cases hM : M < 0
  · have hT : T = false := by rw [HT.out]; simp; omega
    have HVV := Lib.hid (show V = .tuple #[prV Hd.Pr.zero, .bool false] by rw [HV.out, hT]; rfl)
    have HO := Lib.hid (pr_over0 HPA.out)
    clear hT
    go_wp2_with fail
    obtain ⟨d0, d1, d2, d3⟩ := HO.out
    refine bodyPost_ret (v := .tuple #[.agg #[.string ⟨#[]⟩, .int .u8 0, .int .i64 0, .string ⟨#[]⟩], .bool false]) (by simp [results, Tryz.results153, go_sem, d0, d1, d2, d3]) rfl ⟨by rw [HVV.out]; rfl, below_over HB1.out HG.out _ _ _ _⟩
  · have hT : T = true := by rw [HT.out]; simp; omega
    obtain ⟨i, hi⟩ : ∃ i : Nat, M = (i : Int) := ⟨M.toNat, by omega⟩
    have hil : i < l.length := by have := HI.out.2; omega
    have HVV := Lib.hid (show V = .tuple #[prV (Hd.pr l i), .bool true] by rw [HV.out, hT, hi]; rfl)
    obtain ⟨b, off, rfl, hbl, hat⟩ := HP1.out.at_ i hil
    obtain ⟨e0, e1, e2, e3⟩ := hat
    have HO := Lib.hid (pr_over HPA.out (Hd.pr l i))
    subst hi
    clear hT
    generalize Hd.pr l i = x at *
    obtain ⟨x1, x2, x3, x4⟩ := x
    simp only at e0 e1 e2 e3
    go_wp2_with fail
    obtain ⟨d0, d1, d2, d3⟩ := HO.out
    simp only [Nat.zero_add] at d0 d1 d2 d3
    refine bodyPost_ret (v := .tuple #[.agg #[.string (ofL x1), .int .u8 (x2 : Int), .int .i64 x3, .string (ofL x4)], .bool true]) (by simp [results, Tryz.results153, go_sem, d0, d1, d2, d3]) rfl ⟨by rw [HVV.out]; rfl, below_over HB1.out HG.out _ _ _ _⟩

/-! ### what is wrong with a pair -/
theorem pcode_of (p : Hd.Pr) (l : List Hd.Pr) : Hd.pcode p l = if Hd.bad p ≠ 0 then Hd.bad p else if Hd.there l p.key then 9 else 0 := rfl
theorem pcode_bad {p : Hd.Pr} {l : List Hd.Pr} {n : Nat} (h : Hd.bad p = n) (hn : n ≠ 0) : Hd.pcode p l = n := by rw [pcode_of, if_pos (by omega), h]
theorem pcode_good {p : Hd.Pr} {l : List Hd.Pr} (h : Hd.bad p = 0) (b : Bool) (hb : Hd.there l p.key = b) : Hd.pcode p l = if b then 9 else 0 := by rw [pcode_of, if_neg (by omega), hb]
end Go.Proofs.YtgaggelpjaiabaaGreatDoor
end
