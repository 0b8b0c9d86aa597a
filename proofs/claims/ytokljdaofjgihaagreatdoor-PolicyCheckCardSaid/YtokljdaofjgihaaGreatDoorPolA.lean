/-
  POLICIES IN MEMORY; the small questions of the program, walked.
-/
import Derived.Test.YtokljdaofjgihaaGreatDoorPolMath
import Derived.Test.YtokljdaofjgihaaGreatDoorWordB
import Derived.Test.YtokljdaofjgihaaGreatDoorLatEq
import Derived.Test.YtokljdaofjgihaaGreatDoorLatRight
import Derived.Deep.RegionHeld3
import Derived.BigQuiet
import Derived.Deep.QuietTactic
namespace Go.Proofs.YtokljdaofjgihaaGreatDoor
open Go.ChangeShapes Go.WideShapes Go.ChangeAt Go.RowKit

/-- a place's cells -/
structure PlcAt (w : World) (b o : Nat) (x : Pl.Plc) : Prop where
  c0 : w.cell? ⟨b, o, none⟩ = some (.string (ofL x.name))
  c1 : w.cell? ⟨b, o + 1, none⟩ = some (.int .u8 (x.lv : Int))
  c2 : w.cell? ⟨b, o + 2, none⟩ = some (.int .u32 (x.set : Int))
  c3 : w.cell? ⟨b, o + 3, none⟩ = some (.int .i64 x.bytes)
  c4 : w.cell? ⟨b, o + 4, none⟩ = some (.int .u64 (x.base : Int))
structure GrnAt (w : World) (b o : Nat) (x : Pl.Grn) : Prop where
  c0 : w.cell? ⟨b, o, none⟩ = some (.int .i64 x.fr)
  c1 : w.cell? ⟨b, o + 1, none⟩ = some (.int .i64 x.to)
  c2 : w.cell? ⟨b, o + 2, none⟩ = some (.int .i64 x.bud)
/-- numbers that fit -/
structure PlcFits (x : Pl.Plc) : Prop where
  name : x.name.length ≤ 100000
  set : x.set < 4294967296
structure Plcs (w : World) (A : Option Addr) (l : List Pl.Plc) : Prop where
  at_ : ∀ i, i < l.length → ∃ b off, A = some ⟨b, off, none⟩ ∧ b < w.heap.size ∧ PlcFits (Pl.plc l i) ∧ PlcAt w b (off + i * 5) (Pl.plc l i)
structure Grns (w : World) (A : Option Addr) (l : List Pl.Grn) : Prop where
  at_ : ∀ i, i < l.length → ∃ b off, A = some ⟨b, off, none⟩ ∧ b < w.heap.size ∧ GrnAt w b (off + i * 3) (Pl.grn l i)
structure Ints (w : World) (A : Option Addr) (l : List Int) : Prop where
  at_ : ∀ i, i < l.length → ∃ b off, A = some ⟨b, off, none⟩ ∧ b < w.heap.size ∧ w.cell? ⟨b, off + i, none⟩ = some (.int .i64 (l.getD i 0))
theorem PlcAt.below {w w' : World} {B b o : Nat} {x : Pl.Plc} (h : PlcAt w b o x) (hb : Below B w w') (hB : b < B) : PlcAt w' b o x :=
  ⟨(hb.cell (p := ⟨b, o, none⟩) hB).trans h.c0, (hb.cell (p := ⟨b, o + 1, none⟩) hB).trans h.c1, (hb.cell (p := ⟨b, o + 2, none⟩) hB).trans h.c2, (hb.cell (p := ⟨b, o + 3, none⟩) hB).trans h.c3, (hb.cell (p := ⟨b, o + 4, none⟩) hB).trans h.c4⟩
theorem GrnAt.below {w w' : World} {B b o : Nat} {x : Pl.Grn} (h : GrnAt w b o x) (hb : Below B w w') (hB : b < B) : GrnAt w' b o x :=
  ⟨(hb.cell (p := ⟨b, o, none⟩) hB).trans h.c0, (hb.cell (p := ⟨b, o + 1, none⟩) hB).trans h.c1, (hb.cell (p := ⟨b, o + 2, none⟩) hB).trans h.c2⟩
theorem Plcs.on {w w' : World} {A : Option Addr} {l : List Pl.Plc} (h : Plcs w A l) (hb : Below w.heap.size w w') : Plcs w' A l := ⟨fun i hi => by
  obtain ⟨b, off, hA, hlt, hf, hat⟩ := h.at_ i hi
  exact ⟨b, off, hA, Nat.lt_of_lt_of_le hlt hb.size, hf, hat.below hb hlt⟩⟩
theorem Grns.on {w w' : World} {A : Option Addr} {l : List Pl.Grn} (h : Grns w A l) (hb : Below w.heap.size w w') : Grns w' A l := ⟨fun i hi => by
  obtain ⟨b, off, hA, hlt, hat⟩ := h.at_ i hi
  exact ⟨b, off, hA, Nat.lt_of_lt_of_le hlt hb.size, hat.below hb hlt⟩⟩
theorem Ints.on {w w' : World} {A : Option Addr} {l : List Int} (h : Ints w A l) (hb : Below w.heap.size w w') : Ints w' A l := ⟨fun i hi => by
  obtain ⟨b, off, hA, hlt, hat⟩ := h.at_ i hi
  exact ⟨b, off, hA, Nat.lt_of_lt_of_le hlt hb.size, (hb.cell (p := ⟨b, off + i, none⟩) hlt).trans hat⟩⟩
theorem Plcs.take {w : World} {A : Option Addr} {l : List Pl.Plc} (h : Plcs w A l) (k : Nat) : Plcs w A (l.take k) := ⟨fun i hi => by
  rw [List.length_take] at hi
  have e : Pl.plc (l.take k) i = Pl.plc l i := by unfold Pl.plc; simp only [List.getD_eq_getElem?_getD]; rw [List.getElem?_take, if_pos (by omega)]
  rw [e]
  exact h.at_ i (by omega)⟩
theorem Grns.take {w : World} {A : Option Addr} {l : List Pl.Grn} (h : Grns w A l) (k : Nat) : Grns w A (l.take k) := ⟨fun i hi => by
  rw [List.length_take] at hi
  have e : Pl.grn (l.take k) i = Pl.grn l i := by unfold Pl.grn; simp only [List.getD_eq_getElem?_getD]; rw [List.getElem?_take, if_pos (by omega)]
  rw [e]
  exact h.at_ i (by omega)⟩

theorem within_any (n a b : Int) (w : World) : Calls Tryz.prog 43 #[.int .i64 n, .int .i64 a, .int .i64 b] w fun e w' => e = .returned (.bool (Pl.within n a b)) ∧ w = w' := by
  by_cases h1 : a ≤ n
  · by_cases h2 : n ≤ b
    · have H := Lib.hid (show Pl.within n a b = true from Pl.within_iff.2 ⟨h1, h2⟩)
      go_enter Tryz.func43, Tryz.ntmps43
      go_wp2
      go_ret
      exact ⟨ret_bool H.out.symm, rfl⟩
    · have H := Lib.hid (show Pl.within n a b = false by rw [Bool.eq_false_iff]; intro h; exact h2 (Pl.within_iff.1 h).2)
      go_enter Tryz.func43, Tryz.ntmps43
      go_wp2
      go_ret
      exact ⟨ret_bool H.out.symm, rfl⟩
  · have H := Lib.hid (show Pl.within n a b = false by rw [Bool.eq_false_iff]; intro h; exact h1 (Pl.within_iff.1 h).1)
    go_enter Tryz.func43, Tryz.ntmps43
    go_wp2
    go_ret
    exact ⟨ret_bool H.out.symm, rfl⟩
theorem counted_any (n m : Nat) (w : World) : Calls Tryz.prog 71 #[.int .i64 (n : Int), .int .i64 (m : Int)] w fun e w' => e = .returned (.int .i64 (Pl.counted n m : Int)) ∧ w = w' := by
  by_cases h0 : n = 0
  · subst h0
    have H : Hid (Pl.counted 0 m = 15) := rfl
    go_enter Tryz.func71, Tryz.ntmps71
    go_wp2
    go_ret
    exact ⟨ret_nat (by rw [H.out]; rfl), rfl⟩
  · by_cases h1 : m < n
    · have H := Lib.hid (show Pl.counted n m = 6 by unfold Pl.counted; rw [if_neg h0, if_pos h1])
      go_enter Tryz.func71, Tryz.ntmps71
      go_wp2
      go_ret
      exact ⟨ret_nat (by rw [H.out]; rfl), rfl⟩
    · have H := Lib.hid (show Pl.counted n m = 0 by unfold Pl.counted; rw [if_neg h0, if_neg h1])
      go_enter Tryz.func71, Tryz.ntmps71
      go_wp2
      go_ret
      exact ⟨ret_nat (by rw [H.out]; rfl), rfl⟩
def lab (x : Pl.Plc) : Value := .agg #[.int .u8 (x.lv : Int), .int .u32 (x.set : Int)]
def plcV (x : Pl.Plc) : Value := .agg #[.string (ofL x.name), .int .u8 (x.lv : Int), .int .u32 (x.set : Int), .int .i64 x.bytes, .int .u64 (x.base : Int)]
def grnV (x : Pl.Grn) : Value := .agg #[.int .i64 x.fr, .int .i64 x.to, .int .i64 x.bud]
theorem str_list (x : List UInt8) : (ofL x).toList = x := by rw [ByteArray.toList_eq]; rfl
theorem str_same (x y : List UInt8) : ((ofL x).toList == (ofL y).toList) = (x == y) := by rw [str_list, str_list]
theorem cast_beq (a b : Nat) : (((a : Int)) == (b : Int)) = (a == b) := by rw [Bool.eq_iff_iff]; simp only [beq_iff_eq]; omega
theorem PlcAt.box (x : Pl.Plc) (w : World) : PlcAt (w.alloc (.cells #[.string (ofL x.name), .int .u8 (x.lv : Int), .int .u32 (x.set : Int), .int .i64 x.bytes, .int .u64 (x.base : Int)] 72)) w.heap.size 0 x := by
  constructor <;> simp
theorem GrnAt.box (x : Pl.Grn) (w : World) : GrnAt (w.alloc (.cells #[.int .i64 x.fr, .int .i64 x.to, .int .i64 x.bud] 75)) w.heap.size 0 x := by
  constructor <;> simp
set_option maxHeartbeats 1000000 in
theorem chk1_any (x y : Pl.Plc) (b : Nat) (w : World) (h : PlcAt w b 0 x) : Calls Tryz.prog 99 #[plcV y, .pointer (some ⟨b, 0, none⟩)] w fun e w' => e = .returned (.bool (Pl.plcSame x y)) ∧ Below w.heap.size w w' := by
  have hbl := World.block_lt_of_cell? w _ h.c0
  simp only at hbl
  obtain ⟨c0, c1, c2, c3, c4⟩ := h
  have H : Hid (Pl.plcSame x y = (y.name == x.name || (y.lv == x.lv && y.set == x.set))) := rfl
  obtain ⟨xn, xl, xs, xb, xa⟩ := x
  obtain ⟨yn, yl, ys, yb, ya⟩ := y
  generalize Pl.plcSame _ _ = M at *
  have HN := str_same yn xn
  have HL := cast_beq yl xl
  have HS := cast_beq ys xs
  simp only [plcV] at *
  have HG := fun W => lab_eql (yl : Int) ys xl xs W
  rw [HL, HS] at HG
  have hgd := guard24
  cases hn : yn == xn with
  | true =>
    rw [hn] at H HN
    rw [Bool.true_or] at H
    clear hn
    go_enter Tryz.func99, Tryz.ntmps99
    go_wp2_with fail
    go_ret
    exact ⟨ret_bool H.out.symm, (Below.refl _ _).alloc (Nat.le_refl _) _⟩
  | false =>
    rw [hn] at H HN
    rw [Bool.false_or] at H
    clear hn
    generalize (yl == xl && ys == xs) = B at *
    go_enter Tryz.func99, Tryz.ntmps99
    go_wp2_with fail
    go_ret
    exact ⟨ret_bool H.out.symm, (Below.refl _ _).alloc (Nat.le_refl _) _⟩
theorem find1_any (y : Pl.Plc) (s : List UInt8) (b : Nat) (w : World) (h : w.cell? ⟨b, 0, none⟩ = some (.string (ofL s))) : Calls Tryz.prog 49 #[plcV y, .pointer (some ⟨b, 0, none⟩)] w fun e w' => e = .returned (.bool (y.name == s)) ∧ Below w.heap.size w w' := by
  have hbl := World.block_lt_of_cell? w _ h
  simp only at hbl
  obtain ⟨yn, yl, ys, yb, ya⟩ := y
  have HN := str_same yn s
  generalize (yn == s) = B at *
  simp only [plcV] at *
  go_enter Tryz.func49, Tryz.ntmps49
  go_wp2_with fail
  go_ret
  exact ⟨rfl, (Below.refl _ _).alloc (Nat.le_refl _) _⟩
theorem int_beq (a b : Int) : (a == b) = decide (a = b) := by rw [Bool.eq_iff_iff]; simp
set_option maxHeartbeats 1000000 in
theorem same_any (x y : Pl.Grn) (w : World) : Calls Tryz.prog 60 #[grnV x, grnV y] w fun e w' => e = .returned (.bool (Pl.grnSame x y)) ∧ Below w.heap.size w w' := by
  obtain ⟨xf, xt, xb⟩ := x
  obtain ⟨yf, yt, yb⟩ := y
  have H : Hid (Pl.grnSame ⟨xf, xt, xb⟩ ⟨yf, yt, yb⟩ = (xf == yf && xt == yt)) := rfl
  generalize Pl.grnSame _ _ = M at *
  simp only [grnV] at *
  cases h1 : xf == yf with
  | true =>
    rw [h1, Bool.true_and] at H
    go_enter Tryz.func60, Tryz.ntmps60
    go_wp2_with fail
    go_ret
    exact ⟨ret_bool H.out.symm, ((Below.refl _ _).alloc (Nat.le_refl _) _).alloc (by simp) _⟩
  | false =>
    rw [h1, Bool.false_and] at H
    go_enter Tryz.func60, Tryz.ntmps60
    go_wp2_with fail
    go_ret
    exact ⟨ret_bool H.out.symm, ((Below.refl _ _).alloc (Nat.le_refl _) _).alloc (by simp) _⟩
/-! ### the first for which something holds -/
def idx {α : Type} (q : α → Bool) (l : List α) : Int := match l.findIdx? q with | some i => (i : Int) | none => -1
theorem idx_none {α : Type} {q : α → Bool} {l : List α} (z : α) (h : ∀ i, i < l.length → q (l.getD i z) = false) : idx q l = -1 := by
  unfold idx
  rw [List.findIdx?_eq_none_iff.2]
  intro x hx
  obtain ⟨i, hi, rfl⟩ := List.getElem_of_mem hx
  have := h i hi
  rwa [List.getD_eq_getElem?_getD, List.getElem?_eq_getElem hi] at this
theorem idx_some {α : Type} {q : α → Bool} {l : List α} (z : α) {k : Nat} (hk : k < l.length) (h : ∀ i, i < k → q (l.getD i z) = false) (hq : q (l.getD k z) = true) : idx q l = k := by
  unfold idx
  have : l.findIdx? q = some k := by
    rw [List.findIdx?_eq_some_iff_getElem]
    refine ⟨hk, ?_, fun j hj => ?_⟩
    · rwa [List.getD_eq_getElem?_getD, List.getElem?_eq_getElem hk] at hq
    · have := h j hj
      rw [List.getD_eq_getElem?_getD, List.getElem?_eq_getElem (by omega)] at this
      have h2 : q l[j] = false := this
      rw [h2]; simp
  rw [this]
theorem idx_any {α : Type} (q : α → Bool) (l : List α) : decide (idx q l ≥ 0) = l.any q := by
  unfold idx
  cases h : l.findIdx? q with
  | none =>
    have := List.findIdx?_eq_none_iff.1 h
    have h2 : l.any q = false := by rw [List.any_eq_false]; intro x hx; rw [this x hx]; simp
    rw [h2]; simp
  | some i =>
    obtain ⟨hi, hq, _⟩ := List.findIdx?_eq_some_iff_getElem.1 h
    have h2 : l.any q = true := List.any_eq_true.2 ⟨_, List.getElem_mem hi, hq⟩
    rw [h2]; simp
theorem idx_lt {α : Type} (q : α → Bool) (l : List α) : -1 ≤ idx q l ∧ idx q l < l.length := by
  unfold idx
  cases h : l.findIdx? q with
  | none => simp; omega
  | some i =>
    obtain ⟨hi, _⟩ := List.findIdx?_eq_some_iff_getElem.1 h
    simp only; omega
/-- a closure that tells of a place, and writes nothing that was there -/
def TellsP (f : Nat) (c : Array Value) (q : Pl.Plc → Bool) (w : World) : Prop :=
  ∀ (W : World) (x : Pl.Plc), Below w.heap.size w W → Calls Tryz.prog f (#[plcV x] ++ c) W fun e w' => e = .returned (.bool (q x)) ∧ Below W.heap.size W w'
def IdxP (q : Pl.Plc → Bool) (l : List Pl.Plc) (w : World) (g : Nat) (i : Value) (wr : World) : Prop :=
  ∃ k : Nat, k + g = l.length ∧ i = .int .i64 (k : Int) ∧ (∀ j, j < k → q (l.getD j Pl.Plc.zero) = false) ∧ Below w.heap.size w wr
set_option maxHeartbeats 2000000 in
theorem indexP_any (f : Nat) (b : Nat) (hf : f = 99 ∨ f = 49) (q : Pl.Plc → Bool) (l : List Pl.Plc) (A : Option Addr) (c : Nat) (w : World) (hl : l.length ≤ 100000) (hp : Plcs w A l) (ht : TellsP f #[.pointer (some ⟨b, 0, none⟩)] q w) :
    Calls Tryz.prog 48 #[.slice A l.length c, .func (.func f) #[] #[.pointer (some ⟨b, 0, none⟩)]] w fun e w' => e = .returned (.int .i64 (idx q l)) ∧ Below w.heap.size w w' := by
  have HP := Lib.hid hp
  have HT := Lib.hid ht
  have HNONE := Lib.hid (fun h => idx_none (q := q) (l := l) Pl.Plc.zero h)
  have HSOME := Lib.hid (fun k (hk : k < l.length) h hq => idx_some (q := q) (l := l) Pl.Plc.zero hk h hq)
  clear hp ht
  generalize idx q l = M at *
  obtain ⟨n, hn⟩ : ∃ n, n = l.length := ⟨_, rfl⟩
  rw [← hn]
  have HN := Lib.hid hn
  have hnl : n ≤ 100000 := by omega
  clear hn
  rcases hf with rfl | rfl
  all_goals
    go_enter Tryz.func48, Tryz.ntmps48
    go_wp2_with fail
    go_loopg [8] n (fun g i wr => IdxP q l w g i wr)
    case atStart => exact ⟨0, by have := HN.out; omega, rfl, fun j hj => absurd hj (by omega), Below.refl _ _⟩
    case round =>
      obtain ⟨k, hk, rfl, hno, hB⟩ := hrel
      have HB := Lib.hid hB
      have HNO := Lib.hid hno
      have HK := Lib.hid hk
      clear hB hno hk
      by_cases hlt : k < n
      · obtain ⟨b, off, rfl, hbl, hft, hat⟩ := (HP.out.on HB.out).at_ k (by have := HN.out; omega)
        obtain ⟨c0, c1, c2, c3, c4⟩ := hat
        have HC := Lib.hid (HT.out wr (Pl.plc l k) HB.out)
        have HQ : Hid (∀ h, q (Pl.plc l k) = true → M = (k : Int)) := fun h hq => HSOME.out k (by have := HN.out; omega) h hq
        cases hq : q (Pl.plc l k) with
        | true =>
          have HM := Lib.hid (HQ.out HNO.out hq)
          rw [hq] at HC
          clear hq
          generalize Pl.plc l k = x at *
          obtain ⟨xn, xl, xs, xb, xa⟩ := x
          simp only [plcV] at HC c0 c1 c2 c3 c4
          go_wp2_with fail
          refine HC.out.mono ?_
          rintro e w' ⟨rfl, hB1⟩
          have HB1 := Lib.hid (HB.out.trans (hB1.mono HB.out.size))
          clear hB1
          go_wp2_with fail
          go_ret
          exact ⟨ret_nat HM.out.symm, HB1.out⟩
        | false =>
          have HNEXT : Hid (∀ j, j < k + 1 → q (l.getD j Pl.Plc.zero) = false) := fun j hj => by
            by_cases e : j = k
            · rw [e]; exact hq
            · exact HNO.out j (by omega)
          rw [hq] at HC
          clear hq
          generalize Pl.plc l k = x at *
          obtain ⟨xn, xl, xs, xb, xa⟩ := x
          simp only [plcV] at HC c0 c1 c2 c3 c4
          go_wp2_with fail
          refine HC.out.mono ?_
          rintro e w' ⟨rfl, hB1⟩
          have HB1 := Lib.hid (HB.out.trans (hB1.mono HB.out.size))
          clear hB1
          go_wp2_with fail
          go_roundg (gk - 1)
          case rel => exact ⟨k + 1, by have := HK.out; have := HN.out; omega, by go_num, HNEXT.out, HB1.out⟩
          case measure => have := HK.out; have := HN.out; omega
      · have HM := Lib.hid (HNONE.out (fun i hi => HNO.out i (by have := HN.out; omega)))
        go_wp2_with fail
        go_ret
        exact ⟨ret_nat HM.out.symm, HB.out⟩
def IdxG (q : Pl.Grn → Bool) (l : List Pl.Grn) (w : World) (g : Nat) (i : Value) (wr : World) : Prop :=
  ∃ k : Nat, k + g = l.length ∧ i = .int .i64 (k : Int) ∧ (∀ j, j < k → q (l.getD j Pl.Grn.zero) = false) ∧ Below w.heap.size w wr
set_option maxHeartbeats 2000000 in
theorem indexG_any (y : Pl.Grn) (l : List Pl.Grn) (A : Option Addr) (c : Nat) (w : World) (hl : l.length ≤ 100000) (hp : Grns w A l) :
    Calls Tryz.prog 59 #[.slice A l.length c, .func (.func 60) #[grnV y] #[]] w fun e w' => e = .returned (.int .i64 (idx (Pl.grnSame y) l)) ∧ Below w.heap.size w w' := by
  have HP := Lib.hid hp
  have HT := Lib.hid (fun x W => same_any y x W)
  obtain ⟨q, hq⟩ : ∃ q, q = Pl.grnSame y := ⟨_, rfl⟩
  rw [← hq] at HT
  rw [← hq]
  have HNONE := Lib.hid (fun h => idx_none (q := q) (l := l) Pl.Grn.zero h)
  have HSOME := Lib.hid (fun k (hk : k < l.length) h hq => idx_some (q := q) (l := l) Pl.Grn.zero hk h hq)
  clear hp hq
  generalize idx q l = M at *
  obtain ⟨n, hn⟩ : ∃ n, n = l.length := ⟨_, rfl⟩
  rw [← hn]
  have HN := Lib.hid hn
  have hnl : n ≤ 100000 := by omega
  clear hn
  obtain ⟨yf, yt, yb⟩ := y
  simp only [grnV] at HT ⊢
  go_enter Tryz.func59, Tryz.ntmps59
  go_wp2_with fail
  go_loopg [8] n (fun g i wr => IdxG q l w g i wr)
  case atStart => exact ⟨0, by have := HN.out; omega, rfl, fun j hj => absurd hj (by omega), Below.refl _ _⟩
  case round =>
    obtain ⟨k, hk, rfl, hno, hB⟩ := hrel
    have HB := Lib.hid hB
    have HNO := Lib.hid hno
    have HK := Lib.hid hk
    clear hB hno hk
    by_cases hlt : k < n
    · obtain ⟨b, off, rfl, hbl, hat⟩ := (HP.out.on HB.out).at_ k (by have := HN.out; omega)
      obtain ⟨c0, c1, c2⟩ := hat
      have HC := Lib.hid (HT.out (Pl.grn l k) wr)
      have HQ : Hid (∀ h, q (Pl.grn l k) = true → M = (k : Int)) := fun h hq => HSOME.out k (by have := HN.out; omega) h hq
      cases hq : q (Pl.grn l k) with
      | true =>
        have HM := Lib.hid (HQ.out HNO.out hq)
        rw [hq] at HC
        clear hq
        generalize Pl.grn l k = x at *
        obtain ⟨xf, xt, xb⟩ := x
        simp only at HC c0 c1 c2
        go_wp2_with fail
        refine HC.out.mono ?_
        rintro e w' ⟨rfl, hB1⟩
        have HB1 := Lib.hid (HB.out.trans (hB1.mono HB.out.size))
        clear hB1
        go_wp2_with fail
        go_ret
        exact ⟨ret_nat HM.out.symm, HB1.out⟩
      | false =>
        have HNEXT : Hid (∀ j, j < k + 1 → q (l.getD j Pl.Grn.zero) = false) := fun j hj => by
          by_cases e : j = k
          · rw [e]; exact hq
          · exact HNO.out j (by omega)
        rw [hq] at HC
        clear hq
        generalize Pl.grn l k = x at *
        obtain ⟨xf, xt, xb⟩ := x
        simp only at HC c0 c1 c2
        go_wp2_with fail
        refine HC.out.mono ?_
        rintro e w' ⟨rfl, hB1⟩
        have HB1 := Lib.hid (HB.out.trans (hB1.mono HB.out.size))
        clear hB1
        go_wp2_with fail
        go_roundg (gk - 1)
        case rel => exact ⟨k + 1, by have := HK.out; have := HN.out; omega, by go_num, HNEXT.out, HB1.out⟩
        case measure => have := HK.out; have := HN.out; omega
    · have HM := Lib.hid (HNONE.out (fun i hi => HNO.out i (by have := HN.out; omega)))
      go_wp2_with fail
      go_ret
      exact ⟨ret_nat HM.out.symm, HB.out⟩
theorem contP_any (f : Nat) (b : Nat) (hf : f = 99 ∨ f = 49) (q : Pl.Plc → Bool) (l : List Pl.Plc) (A : Option Addr) (c : Nat) (w : World) (hl : l.length ≤ 100000) (hp : Plcs w A l) (ht : TellsP f #[.pointer (some ⟨b, 0, none⟩)] q w) :
    Calls Tryz.prog 100 #[.slice A l.length c, .func (.func f) #[] #[.pointer (some ⟨b, 0, none⟩)]] w fun e w' => e = .returned (.bool (l.any q)) ∧ Below w.heap.size w w' := by
  have HC := Lib.hid (indexP_any f b hf q l A c w hl hp ht)
  have HA := Lib.hid (idx_any q l)
  clear hp ht
  obtain ⟨M, hM⟩ : ∃ M, M = idx q l := ⟨_, rfl⟩
  rw [← hM] at HC HA
  clear hM
  go_enter Tryz.func100, Tryz.ntmps100
  go_wp2_with fail
  refine HC.out.mono ?_
  rintro e w' ⟨rfl, hB1⟩
  have HB1 := Lib.hid hB1
  clear hB1
  go_wp2_with fail
  go_ret
  exact ⟨ret_bool (by rw [← HA.out]), HB1.out⟩
theorem contG_any (y : Pl.Grn) (l : List Pl.Grn) (A : Option Addr) (c : Nat) (w : World) (hl : l.length ≤ 100000) (hp : Grns w A l) :
    Calls Tryz.prog 101 #[.slice A l.length c, .func (.func 60) #[grnV y] #[]] w fun e w' => e = .returned (.bool (l.any (Pl.grnSame y))) ∧ Below w.heap.size w w' := by
  have HC := Lib.hid (indexG_any y l A c w hl hp)
  have HA := Lib.hid (idx_any (Pl.grnSame y) l)
  clear hp
  obtain ⟨M, hM⟩ : ∃ M, M = idx (Pl.grnSame y) l := ⟨_, rfl⟩
  rw [← hM] at HC HA
  clear hM
  go_enter Tryz.func101, Tryz.ntmps101
  go_wp2_with fail
  refine HC.out.mono ?_
  rintro e w' ⟨rfl, hB1⟩
  have HB1 := Lib.hid hB1
  clear hB1
  go_wp2_with fail
  go_ret
  exact ⟨ret_bool (by rw [← HA.out]), HB1.out⟩
end Go.Proofs.YtokljdaofjgihaaGreatDoor
