/-
 A part of the proof.
-/
import Derived.Test.YtaikigponkjkgaaGreatDoorXq04
import Derived.WalkKit
import Derived.ProofKit
import Derived.Deep.RegionWith
import Derived.StillTailTactics
import Derived.Laws.StructEq
import Derived.Laws.IdiomStrings
import Derived.Deep.RegionHeld3
section
namespace Go.Proofs.YtaikigponkjkgaaGreatDoor
open Go.ChangeShapes Go.WideShapes Go.ChangeAt Go.RowKit
open Go.Lib (hid)
theorem ret_nat {a b : Int} (h : a = b) : Ending.returned (.int .i64 a) = .returned (.int .i64 b) := by rw [h]
theorem name_0 {l : List UInt8} (h : l.length = 0) : Wrd.nameCode l = 15 := by unfold Wrd.nameCode; rw [if_pos h]
theorem name_long {l : List UInt8} (h : 16 < l.length) : Wrd.nameCode l = 5 := by unfold Wrd.nameCode; rw [if_neg (by omega), if_pos h]
theorem name_ok {l : List UInt8} (h0 : l.length ≠ 0) (h : ¬ 16 < l.length) (ha : l.all Wrd.mark = true) : Wrd.nameCode l = 0 := by unfold Wrd.nameCode; rw [if_neg h0, if_neg h, if_pos ha]
theorem name_form {l : List UInt8} (h0 : l.length ≠ 0) (h : ¬ 16 < l.length) (ha : l.all Wrd.mark = false) : Wrd.nameCode l = 4 := by unfold Wrd.nameCode; rw [if_neg h0, if_neg h, if_neg (by rw [ha]; simp)]
set_option maxHeartbeats 1000000 in
theorem name_any (l : List UInt8) (w : World) (hl : l.length ≤ 100000) : Calls Tryz.prog 76 #[.string (ofL l)] w fun e w' => e = .returned (.int .i64 (Wrd.nameCode l : Int)) ∧ w = w' := by
 have hsz : (ofL l).size = l.length := ofL_size l
 have HPL := hid (fun W => plain_any l W hl)
 by_cases h0 : l.length = 0
 ·have HC := hid (name_0 h0)
  rw [ofL_nil h0]
  clear HPL
  go_enter Tryz.func76, Tryz.ntmps76
  go_wp2_with fail
  go_ret
  exact ⟨ret_nat (by rw [HC.out]; rfl), rfl⟩
 ·have he := str_ne h0
  by_cases h1 : 16 < l.length
  ·have HC := hid (name_long h1)
   have hs : 16 < (ofL l).size := by omega
   go_enter Tryz.func76, Tryz.ntmps76
   go_wp2_with fail
   go_ret
   exact ⟨ret_nat (by rw [HC.out]; rfl), rfl⟩
  ·have hs : ¬ 16 < (ofL l).size := by omega
   cases ha : l.all Wrd.mark with
   | true =>
    have HC := hid (name_ok h0 h1 ha)
    have hp : Wrd.plain l = true := by unfold Wrd.plain; rw [ha]; simp; intro h; exact h0 (by rw [h]; rfl)
    rw [hp] at HPL
    clear ha hp
    go_enter Tryz.func76, Tryz.ntmps76
    go_wp2_with fail
    refine (HPL.out _).mono ?_
    rintro e w' ⟨rfl, rfl⟩
    go_wp2_with fail
    go_ret
    exact ⟨ret_nat (by rw [HC.out]; rfl), rfl⟩
   | false =>
    have HC := hid (name_form h0 h1 ha)
    have hp : Wrd.plain l = false := by unfold Wrd.plain; rw [ha]; rfl
    rw [hp] at HPL
    clear ha hp
    go_enter Tryz.func76, Tryz.ntmps76
    go_wp2_with fail
    refine (HPL.out _).mono ?_
    rintro e w' ⟨rfl, rfl⟩
    go_wp2_with fail
    go_ret
    exact ⟨ret_nat (by rw [HC.out]; rfl), rfl⟩
set_option maxHeartbeats 1000000 in
theorem rname_any (l : List UInt8) (w : World) (hl : l.length ≤ 100000) : Calls Tryz.prog 47 #[.string (ofL l)] w fun e w' => e = .returned (.int .i64 (Wrd.nameCode l : Int)) ∧ w = w' := by
 have hsz : (ofL l).size = l.length := ofL_size l
 by_cases h0 : l.length = 0
 ·have HC := hid (name_0 h0)
  have hs : (ofL l).size = 0 := by omega
  go_enter Tryz.func47, Tryz.ntmps47
  go_wp2_with fail
  go_ret
  exact ⟨ret_nat (by rw [HC.out]; rfl), rfl⟩
 ·by_cases h1 : 16 < l.length
  ·have HC := hid (name_long h1)
   have hs : 16 < (ofL l).size := by omega
   have hs0 : (((ofL l).size : Int) == 0) = false := beq_eq_false_iff_ne.2 (by omega)
   clear h0
   go_enter Tryz.func47, Tryz.ntmps47
   go_wp2_with fail
   go_ret
   exact ⟨ret_nat (by rw [HC.out]; rfl), rfl⟩
  ·have hs : ¬ 16 < (ofL l).size := by omega
   have hs0 : ((l.length : Int) == 0) = false := beq_eq_false_iff_ne.2 (by omega)
   have HG : Hid (∀ p (h : p < l.length), (ofL l)[p]'(by rw [hsz]; exact h) = l[p]) := fun p h => rfl
   have HA := hid (fun k h => all_take l k h)
   have HN := hid (fun k (h : k < l.length) => all_not (l := l) (k := k) h)
   have HOK := hid (name_ok h0 h1)
   have HBAD := hid (name_form h0 h1)
   generalize Wrd.nameCode l = C at *
   clear h0
   go_enter Tryz.func47, Tryz.ntmps47
   go_wp2_with fail
   go_loopg [3] l.length (fun g i wr => ∃ k : Nat, k + g = l.length ∧ i = .int .i64 k ∧ (l.take k).all Wrd.mark = true ∧ wr = w)
   case atStart => exact ⟨0, by omega, rfl, by simp, rfl⟩
   case round =>
    obtain ⟨k, hk, rfl, hall, rfl⟩ := hrel
    have HALL := hid hall
    clear hall
    by_cases hlt : k < l.length
    ·have hks : k < (ofL l).size := by omega
     have HGK := hid (HG.out k hlt)
     have HM := hid (fun W => letter_any (ofL l)[k] W)
     cases hm : Wrd.mark (l[k]'hlt) with
     | true =>
      have HT := hid (show (l.take (k + 1)).all Wrd.mark = true by rw [HA.out k hlt, HALL.out, hm]; rfl)
      rw [← HGK.out] at hm
      rw [hm] at HM
      clear hm
      go_wp2_with fail
      refine (HM.out _).mono ?_
      rintro e w' ⟨rfl, rfl⟩
      go_wp2_with fail
      go_roundg (gk - 1)
      case rel => exact ⟨k + 1, by omega, by go_num, HT.out, rfl⟩
      case measure => omega
     | false =>
      have HF := hid (HBAD.out (HN.out k hlt hm))
      rw [← HGK.out] at hm
      rw [hm] at HM
      clear hm
      go_wp2_with fail
      refine (HM.out _).mono ?_
      rintro e w' ⟨rfl, rfl⟩
      go_wp2_with fail
      go_ret
      exact ⟨ret_nat (by rw [HF.out]; rfl), rfl⟩
    ·have hkl : k = l.length := by omega
     have HF := hid (HOK.out (by have := HALL.out; rw [hkl, List.take_length] at this; exact this))
     have hks : ¬ k < (ofL l).size := by omega
     clear hkl
     go_wp2_with fail
     go_ret
     exact ⟨ret_nat (by rw [HF.out]; rfl), rfl⟩
theorem str_list (x : List UInt8) : (ofL x).toList = x := by rw [ByteArray.toList_eq]; rfl
theorem str_same (x y : List UInt8) : ((ofL x).toList == (ofL y).toList) = (x == y) := by rw [str_list, str_list]
theorem cast_beq (a b : Nat) : (((a : Int)) == (b : Int)) = (a == b) := by rw [Bool.eq_iff_iff]; simp only [beq_iff_eq]; omega
/-! ### the first for which something holds -/
def idx {α : Type} (q : α → Bool) (l : List α) : Int := match l.findIdx? q with | some i => (i : Int) | none => -1
theorem idx_none {α : Type} {q : α → Bool} {l : List α} (z : α) (h : ∀ i, i < l.length → q (l.getD i z) = false) : idx q l = -1 := by
 unfold idx
 rw [List.findIdx?_eq_none_iff.2]
 intro x hx
 obtain ⟨i, hi, rfl⟩ := List.getElem_of_mem hx
 have := h i hi
 rwa [List.getD_eq_getElem?_getD, List.getElem?_eq_getElem hi] at this
theorem idx_some {α : Type} {q : α → Bool} {l : List α} (z : α) {k : Nat} (hk : k < l.length) (h : ∀ i, i < k → q (l.getD i z) = false) (hq : q (l.getD k z) = true) : idx q l = k := by
 unfold idx
 have : l.findIdx? q = some k := by
  rw [List.findIdx?_eq_some_iff_getElem]
  refine ⟨hk, ?_, fun j hj => ?_⟩
  ·rwa [List.getD_eq_getElem?_getD, List.getElem?_eq_getElem hk] at hq
  ·have := h j hj
   rw [List.getD_eq_getElem?_getD, List.getElem?_eq_getElem (by omega)] at this
   have h2 : q l[j] = false := this
   rw [h2]; simp
 rw [this]
theorem idx_any {α : Type} (q : α → Bool) (l : List α) : decide (idx q l ≥ 0) = l.any q := by
 unfold idx
 cases h : l.findIdx? q with
 | none =>
  have := List.findIdx?_eq_none_iff.1 h
  have h2 : l.any q = false := by rw [List.any_eq_false]; intro x hx; rw [this x hx]; simp
  rw [h2]; simp
 | some i =>
  obtain ⟨hi, hq, _⟩ := List.findIdx?_eq_some_iff_getElem.1 h
  have h2 : l.any q = true := List.any_eq_true.2 ⟨_, List.getElem_mem hi, hq⟩
  rw [h2]; simp
theorem idx_lt {α : Type} (q : α → Bool) (l : List α) : -1 ≤ idx q l ∧ idx q l < l.length := by
 unfold idx
 cases h : l.findIdx? q with
 | none => simp; omega
 | some i =>
  obtain ⟨hi, _⟩ := List.findIdx?_eq_some_iff_getElem.1 h
  simp only; omega
theorem region_tail {P : Program} {id : Nat} {Q : Exit → Act → World → Prop} {a : Act} {w : World} {l : List Oper} (n : Nat) (hm : P.follows .mixedOrders = true) (hB : Region.lexTailB .any l.toArray n = true)
  (h : wpStill P l.toArray w.drew (fun a' => wpList P l.toArray Q (l.drop n) a' w.drew) (l.take n) a) : (Code.region id l.toArray true).wp P Q a w := wp_region_still_tail n hm hB h
structure PrAt (w : World) (b o : Nat) (x : Hd.Pr) : Prop where
 c0 : w.cell? ⟨b, o, none⟩ = some (.string (ofL x.key))
 c1 : w.cell? ⟨b, o + 1, none⟩ = some (.int .u8 (x.kind : Int))
 c2 : w.cell? ⟨b, o + 2, none⟩ = some (.int .i64 x.num)
 c3 : w.cell? ⟨b, o + 3, none⟩ = some (.string (ofL x.txt))
structure Prs (w : World) (A : Option Addr) (l : List Hd.Pr) : Prop where
 at_ : ∀ i, i < l.length → ∃ b off, A = some ⟨b, off, none⟩ ∧ b < w.heap.size ∧ PrAt w b (off + i * 4) (Hd.pr l i)
theorem PrAt.below {w w' : World} {B b o : Nat} {x : Hd.Pr} (h : PrAt w b o x) (hb : Below B w w') (hB : b < B) : PrAt w' b o x :=
 ⟨(hb.cell (p := ⟨b, o, none⟩) hB).trans h.c0, (hb.cell (p := ⟨b, o + 1, none⟩) hB).trans h.c1, (hb.cell (p := ⟨b, o + 2, none⟩) hB).trans h.c2, (hb.cell (p := ⟨b, o + 3, none⟩) hB).trans h.c3⟩
theorem Prs.on {w w' : World} {A : Option Addr} {l : List Hd.Pr} (h : Prs w A l) (hb : Below w.heap.size w w') : Prs w' A l := ⟨fun i hi => by
 obtain ⟨b, off, hA, hlt, hat⟩ := h.at_ i hi
 exact ⟨b, off, hA, Nat.lt_of_lt_of_le hlt hb.size, hat.below hb hlt⟩⟩
theorem Prs.nil (w : World) (A : Option Addr) : Prs w A [] := ⟨fun i hi => absurd hi (by simp)⟩
theorem pr_take {l : List Hd.Pr} {k i : Nat} (h : i < k) : Hd.pr (l.take k) i = Hd.pr l i := by
 unfold Hd.pr
 simp only [List.getD_eq_getElem?_getD]
 rw [List.getElem?_take, if_pos h]
theorem Prs.take {w : World} {A : Option Addr} {l : List Hd.Pr} (h : Prs w A l) (k : Nat) : Prs w A (l.take k) := ⟨fun i hi => by
 rw [List.length_take] at hi
 rw [pr_take (by omega)]
 exact h.at_ i (by omega)⟩
def prV (x : Hd.Pr) : Value := .agg #[.string (ofL x.key), .int .u8 (x.kind : Int), .int .i64 x.num, .string (ofL x.txt)]
def prL (x : Hd.Pr) : List Value := [.string (ofL x.key), .int .u8 (x.kind : Int), .int .i64 x.num, .string (ofL x.txt)]
def prs (l : List Hd.Pr) : List Value := l.flatMap prL
theorem prs_snoc (l : List Hd.Pr) (x : Hd.Pr) : prs (l ++ [x]) = prs l ++ prL x := by unfold prs; rw [List.flatMap_append]; simp
theorem prs_len (l : List Hd.Pr) : (prs l).length = l.length * 4 := Rw.flat_len prL 4 (fun _ => rfl) l
theorem rown_prs {w : World} {B E : Nat} {v : Value} {l : List Hd.Pr} (h : w.ownsRow B E 4 v l.length (prs l)) :
  ∃ A c, v = .slice A l.length c ∧ l.length ≤ c ∧ (A = none → c = 0) ∧ Prs w A l := by
 obtain ⟨A, c, rfl, hc, hb, hx⟩ := Rw.own_cells h
 refine ⟨A, c, rfl, hc, ?_, ⟨fun i hi => ?_⟩⟩
 ·rintro rfl
  rcases h.2 with ⟨e, _⟩ | ⟨g, cap, cur, e, _⟩
  ·exact (Value.slice.inj e).2.2
  ·exact absurd (Value.slice.inj e).1 (by simp)
 ·obtain ⟨g, rfl, hg, hcell⟩ := hx (by omega)
  have at_ : ∀ t, t < 4 → w.cell? ⟨g, i * 4 + t, none⟩ = (prL l[i])[t]? := fun t ht => by
   rw [hcell _ (by omega)]
   exact Rw.flat_get prL 4 (fun _ => rfl) (by omega) l i t hi ht
  refine ⟨g, 0, rfl, hg, ?_⟩
  rw [Hd.pr_at hi, Nat.zero_add]
  exact ⟨at_ 0 (by omega), at_ 1 (by omega), at_ 2 (by omega), at_ 3 (by omega)⟩
theorem infoPr : (Tryz.prog.info? 142).map (fun i => (i.zero, i.size, i.bytes)) = some (some (.agg #[.string ⟨#[]⟩, .int .u8 0, .int .i64 0, .string ⟨#[]⟩]), 4, 48) := by kernel_rfl

/-! ### two pairs -/
theorem guardPr : Tryz.prog.eqGuardType Tryz.prog.depth 142 = false := by kernel_rfl
theorem stoodPr : Tryz.prog.stoodInHeld 142 = false := by kernel_rfl
theorem fieldsPr : Tryz.prog.fieldsOf 142 = #[⟨"Key", 9, 0, false, "", "", 0⟩, ⟨"Kind", 5, 1, false, "", "", 16⟩, ⟨"Num", 2, 2, false, "", "", 24⟩, ⟨"Text", 9, 3, false, "", "", 32⟩] := by kernel_rfl
def prEq (x y : Hd.Pr) : Bool := (x.key == y.key) && (x.kind == y.kind) && (x.num == y.num) && (x.txt == y.txt)
theorem prEq_iff (x y : Hd.Pr) : prEq x y = decide (x = y) := by
 obtain ⟨a, b, c, d⟩ := x
 obtain ⟨a', b', c', d'⟩ := y
 rw [Bool.eq_iff_iff]
 simp [prEq, and_assoc]
theorem pr_eql (a : ByteArray) (b c : Int) (d : ByteArray) (a' : ByteArray) (b' c' : Int) (d' : ByteArray) (W : World) : (Op.equalIn 10000 142 (.agg #[.string a, .int .u8 b, .int .i64 c, .string d]) (.agg #[.string a', .int .u8 b', .int .i64 c', .string d'])).run Tryz.prog W = .ok ((a.toList == a'.toList) && (b == b') && (c == c') && (d.toList == d'.toList)) W := by
 rw [run_equalIn_agg (ht := by kernel_rfl) (hp := stoodPr), fieldsPr]
 simp [Op.eqFields, go_sem, Tryz.underlying5, Tryz.underlying9, Tryz.underlying2]
 by_cases h1 : a.toList = a'.toList <;> by_cases h2 : b = b' <;> by_cases h3 : c = c' <;> by_cases h4 : d.toList = d'.toList <;> simp [h1, h2, h3, h4]
theorem pr_bool (x y : Hd.Pr) : (((ofL x.key).toList == (ofL y.key).toList) && ((x.kind : Int) == (y.kind : Int)) && (x.num == y.num) && ((ofL x.txt).toList == (ofL y.txt).toList)) = prEq x y := by
 rw [str_same, str_same, cast_beq]; rfl
theorem pr_eq (x y : Hd.Pr) (W : World) : (Op.equalIn 10000 142 (prV x) (prV y)).run Tryz.prog W = .ok (prEq x y) W := by
 rw [← pr_bool]
 exact pr_eql _ _ _ _ _ _ _ _ W

theorem hfind1_any (y : Hd.Pr) (s : List UInt8) (b : Nat) (w : World) (h : w.cell? ⟨b, 0, none⟩ = some (.string (ofL s))) : Calls Tryz.prog 147 #[prV y, .pointer (some ⟨b, 0, none⟩)] w fun e w' => e = .returned (.bool (y.key == s)) ∧ Below w.heap.size w w' := by
 have hbl := World.block_lt_of_cell? w _ h
 simp only at hbl
 obtain ⟨yn, yl, ys, yb⟩ := y
 have HN := str_same yn s
 generalize (yn == s) = B at *
 simp only [prV] at *
 go_enter Tryz.func147, Tryz.ntmps147
 go_wp2_with fail
 go_ret
 exact ⟨rfl, (Below.refl _ _).alloc (Nat.le_refl _) _⟩
def TellsPr (f : Nat) (c : Array Value) (q : Hd.Pr → Bool) (w : World) : Prop :=
 ∀ (W : World) (x : Hd.Pr), Below w.heap.size w W → Calls Tryz.prog f (#[prV x] ++ c) W fun e w' => e = .returned (.bool (q x)) ∧ Below W.heap.size W w'
def IdxPr (q : Hd.Pr → Bool) (l : List Hd.Pr) (w : World) (g : Nat) (i : Value) (wr : World) : Prop :=
 ∃ k : Nat, k + g = l.length ∧ i = .int .i64 (k : Int) ∧ (∀ j, j < k → q (l.getD j Hd.Pr.zero) = false) ∧ Below w.heap.size w wr
theorem hfind1_tells (s : List UInt8) (b : Nat) (w : World) (h : w.cell? ⟨b, 0, none⟩ = some (.string (ofL s))) : TellsPr 147 #[.pointer (some ⟨b, 0, none⟩)] (fun x => x.key == s) w := fun W x hB =>
 hfind1_any x s b W ((hB.cell (p := ⟨b, 0, none⟩) (World.block_lt_of_cell? w _ h)).trans h)
def hasOneN : Nat :=
 151
set_option maxHeartbeats 2000000 in
theorem indexPr_any (f : Nat) (b : Nat) (hf : f = 147 ∨ f = hasOneN) (q : Hd.Pr → Bool) (l : List Hd.Pr) (A : Option Addr) (c : Nat) (w : World) (hl : l.length ≤ 100000) (hp : Prs w A l) (ht : TellsPr f #[.pointer (some ⟨b, 0, none⟩)] q w) :
  Calls Tryz.prog 146 #[.slice A l.length c, .func (.func f) #[] #[.pointer (some ⟨b, 0, none⟩)]] w fun e w' => e = .returned (.int .i64 (idx q l)) ∧ Below w.heap.size w w' := by
 have HP := hid hp
 unfold hasOneN at hf
 have HT := hid ht
 have HNONE := hid (fun h => idx_none (q := q) (l := l) Hd.Pr.zero h)
 have HSOME := hid (fun k (hk : k < l.length) h hq => idx_some (q := q) (l := l) Hd.Pr.zero hk h hq)
 clear hp ht
 generalize idx q l = M at *
 obtain ⟨n, hn⟩ : ∃ n, n = l.length := ⟨_, rfl⟩
 rw [← hn]
 have HN := hid hn
 have hnl : n ≤ 100000 := by omega
 clear hn
 rcases hf with rfl | rfl
 all_goals
  go_enter Tryz.func146, Tryz.ntmps146
  go_wp2_with fail
  go_loopg [8] n (fun g i wr => IdxPr q l w g i wr)
  case atStart => exact ⟨0, by have := HN.out; omega, rfl, fun j hj => absurd hj (by omega), Below.refl _ _⟩
  case round =>
   obtain ⟨k, hk, rfl, hno, hB⟩ := hrel
   have HB := hid hB
   have HNO := hid hno
   have HK := hid hk
   clear hB hno hk
   by_cases hlt : k < n
   ·obtain ⟨b, off, rfl, hbl, hat⟩ := (HP.out.on HB.out).at_ k (by have := HN.out; omega)
    obtain ⟨c0, c1, c2, c3⟩ := hat
    have HC := hid (HT.out wr (Hd.pr l k) HB.out)
    have HQ : Hid (∀ h, q (Hd.pr l k) = true → M = (k : Int)) := fun h hq => HSOME.out k (by have := HN.out; omega) h hq
    cases hq : q (Hd.pr l k) with
    | true =>
     have HM := hid (HQ.out HNO.out hq)
     rw [hq] at HC
     clear hq
     generalize Hd.pr l k = x at *
     obtain ⟨xn, xl, xs, xb⟩ := x
     simp only [prV] at HC c0 c1 c2 c3
     go_wp2_with fail
     refine HC.out.mono ?_
     rintro e w' ⟨rfl, hB1⟩
     have HB1 := hid (HB.out.trans (hB1.mono HB.out.size))
     clear hB1
     go_wp2_with fail
     go_ret
     exact ⟨ret_nat HM.out.symm, HB1.out⟩
    | false =>
     have HNEXT : Hid (∀ j, j < k + 1 → q (l.getD j Hd.Pr.zero) = false) := fun j hj => by
      by_cases e : j = k
      ·rw [e]; exact hq
      ·exact HNO.out j (by omega)
     rw [hq] at HC
     clear hq
     generalize Hd.pr l k = x at *
     obtain ⟨xn, xl, xs, xb⟩ := x
     simp only [prV] at HC c0 c1 c2 c3
     go_wp2_with fail
     refine HC.out.mono ?_
     rintro e w' ⟨rfl, hB1⟩
     have HB1 := hid (HB.out.trans (hB1.mono HB.out.size))
     clear hB1
     go_wp2_with fail
     go_roundg (gk - 1)
     case rel => exact ⟨k + 1, by have := HK.out; have := HN.out; omega, by go_num, HNEXT.out, HB1.out⟩
     case measure => have := HK.out; have := HN.out; omega
   ·have HM := hid (HNONE.out (fun i hi => HNO.out i (by have := HN.out; omega)))
    go_wp2_with fail
    go_ret
    exact ⟨ret_nat HM.out.symm, HB.out⟩
end Go.Proofs.YtaikigponkjkgaaGreatDoor
end
