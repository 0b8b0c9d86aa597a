/-
  HEADS IN MEMORY; pairs held against each other; the first pair for which something holds: walked.
-/
import Derived.Test.YtnjlhafhgfpfiaaGreatDoorRb04
import Derived.Test.YtnjlhafhgfpfiaaGreatDoorRb05
import Derived.Laws.StructEq
import Derived.Laws.IdiomStrings
import Derived.Deep.RegionHeld3
section
namespace Go.Proofs.YtnjlhafhgfpfiaaGreatDoor
open Go.ChangeShapes Go.WideShapes Go.ChangeAt Go.RowKit
/-- a pair's cells -/
structure PrAt (w : World) (b o : Nat) (x : Hd.Pr) : Prop where
  c0 : w.cell? ⟨b, o, none⟩ = some (.string (ofL x.key))
  c1 : w.cell? ⟨b, o + 1, none⟩ = some (.int .u8 (x.kind : Int))
  c2 : w.cell? ⟨b, o + 2, none⟩ = some (.int .i64 x.num)
  c3 : w.cell? ⟨b, o + 3, none⟩ = some (.string (ofL x.txt))
/-- a head lies there -/
structure Prs (w : World) (A : Option Addr) (l : List Hd.Pr) : Prop where
  at_ : ∀ i, i < l.length → ∃ b off, A = some ⟨b, off, none⟩ ∧ b < w.heap.size ∧ PrAt w b (off + i * 4) (Hd.pr l i)
theorem PrAt.below {w w' : World} {B b o : Nat} {x : Hd.Pr} (h : PrAt w b o x) (hb : Below B w w') (hB : b < B) : PrAt w' b o x :=
  ⟨(hb.cell (p := ⟨b, o, none⟩) hB).trans h.c0, (hb.cell (p := ⟨b, o + 1, none⟩) hB).trans h.c1, (hb.cell (p := ⟨b, o + 2, none⟩) hB).trans h.c2, (hb.cell (p := ⟨b, o + 3, none⟩) hB).trans h.c3⟩
theorem Prs.on {w w' : World} {A : Option Addr} {l : List Hd.Pr} (h : Prs w A l) (hb : Below w.heap.size w w') : Prs w' A l := ⟨fun i hi => by
  obtain ⟨b, off, hA, hlt, hat⟩ := h.at_ i hi
  exact ⟨b, off, hA, Nat.lt_of_lt_of_le hlt hb.size, hat.below hb hlt⟩⟩
theorem Prs.nil (w : World) (A : Option Addr) : Prs w A [] := ⟨fun i hi => absurd hi (by simp)⟩
theorem pr_take {l : List Hd.Pr} {k i : Nat} (h : i < k) : Hd.pr (l.take k) i = Hd.pr l i := by
  unfold Hd.pr
  simp only [List.getD_eq_getElem?_getD]
  rw [List.getElem?_take, if_pos h]
theorem Prs.take {w : World} {A : Option Addr} {l : List Hd.Pr} (h : Prs w A l) (k : Nat) : Prs w A (l.take k) := ⟨fun i hi => by
  rw [List.length_take] at hi
  rw [pr_take (by omega)]
  exact h.at_ i (by omega)⟩
def prV (x : Hd.Pr) : Value := .agg #[.string (ofL x.key), .int .u8 (x.kind : Int), .int .i64 x.num, .string (ofL x.txt)]
def prL (x : Hd.Pr) : List Value := [.string (ofL x.key), .int .u8 (x.kind : Int), .int .i64 x.num, .string (ofL x.txt)]
def prs (l : List Hd.Pr) : List Value := l.flatMap prL
theorem prs_snoc (l : List Hd.Pr) (x : Hd.Pr) : prs (l ++ [x]) = prs l ++ prL x := by unfold prs; rw [List.flatMap_append]; simp
theorem prs_len (l : List Hd.Pr) : (prs l).length = l.length * 4 := Rw.flat_len prL 4 (fun _ => rfl) l
theorem rown_prs {w : World} {B E : Nat} {v : Value} {l : List Hd.Pr} (h : w.ownsRow B E 4 v l.length (prs l)) :
    ∃ A c, v = .slice A l.length c ∧ l.length ≤ c ∧ (A = none → c = 0) ∧ Prs w A l := by
  obtain ⟨A, c, rfl, hc, hb, hx⟩ := Rw.own_cells h
  refine ⟨A, c, rfl, hc, ?_, ⟨fun i hi => ?_⟩⟩
  · rintro rfl
    rcases h.2 with ⟨e, _⟩ | ⟨g, cap, cur, e, _⟩
    · exact (Value.slice.inj e).2.2
    · exact absurd (Value.slice.inj e).1 (by simp)
  · obtain ⟨g, rfl, hg, hcell⟩ := hx (by omega)
    have at_ : ∀ t, t < 4 → w.cell? ⟨g, i * 4 + t, none⟩ = (prL l[i])[t]? := fun t ht => by
      rw [hcell _ (by omega)]
      exact Rw.flat_get prL 4 (fun _ => rfl) (by omega) l i t hi ht
    refine ⟨g, 0, rfl, hg, ?_⟩
    rw [Hd.pr_at hi, Nat.zero_add]
    exact ⟨at_ 0 (by omega), at_ 1 (by omega), at_ 2 (by omega), at_ 3 (by omega)⟩
theorem infoPr : (Tryz.prog.info? 86).map (fun i => (i.zero, i.size, i.bytes)) = some (some (.agg #[.string ⟨#[]⟩, .int .u8 0, .int .i64 0, .string ⟨#[]⟩]), 4, 48) := by kernel_rfl

/-! ### two pairs -/
theorem guardPr : Tryz.prog.eqGuardType Tryz.prog.depth 86 = false := by kernel_rfl
theorem stoodPr : Tryz.prog.stoodInHeld 86 = false := by kernel_rfl
theorem fieldsPr : Tryz.prog.fieldsOf 86 = #[⟨"Key", 9, 0, false, "", "", 0⟩, ⟨"Kind", 5, 1, false, "", "", 16⟩, ⟨"Num", 2, 2, false, "", "", 24⟩, ⟨"Text", 9, 3, false, "", "", 32⟩] := by kernel_rfl
def prEq (x y : Hd.Pr) : Bool := (x.key == y.key) && (x.kind == y.kind) && (x.num == y.num) && (x.txt == y.txt)
theorem prEq_iff (x y : Hd.Pr) : prEq x y = decide (x = y) := by
  obtain ⟨a, b, c, d⟩ := x
  obtain ⟨a', b', c', d'⟩ := y
  rw [Bool.eq_iff_iff]
  simp [prEq, and_assoc]
theorem pr_eql (a : ByteArray) (b c : Int) (d : ByteArray) (a' : ByteArray) (b' c' : Int) (d' : ByteArray) (W : World) : (Op.equalIn 10000 86 (.agg #[.string a, .int .u8 b, .int .i64 c, .string d]) (.agg #[.string a', .int .u8 b', .int .i64 c', .string d'])).run Tryz.prog W = .ok ((a.toList == a'.toList) && (b == b') && (c == c') && (d.toList == d'.toList)) W := by
  rw [run_equalIn_agg (ht := by kernel_rfl) (hp := stoodPr), fieldsPr]
  simp [Op.eqFields, go_sem, Tryz.underlying5, Tryz.underlying9, Tryz.underlying2]
  by_cases h1 : a.toList = a'.toList <;> by_cases h2 : b = b' <;> by_cases h3 : c = c' <;> by_cases h4 : d.toList = d'.toList <;> simp [h1, h2, h3, h4]
theorem pr_bool (x y : Hd.Pr) : (((ofL x.key).toList == (ofL y.key).toList) && ((x.kind : Int) == (y.kind : Int)) && (x.num == y.num) && ((ofL x.txt).toList == (ofL y.txt).toList)) = prEq x y := by
  rw [str_same, str_same, cast_beq]; rfl
theorem pr_eq (x y : Hd.Pr) (W : World) : (Op.equalIn 10000 86 (prV x) (prV y)).run Tryz.prog W = .ok (prEq x y) W := by
  rw [← pr_bool]
  exact pr_eql _ _ _ _ _ _ _ _ W

theorem hfind1_any (y : Hd.Pr) (s : List UInt8) (b : Nat) (w : World) (h : w.cell? ⟨b, 0, none⟩ = some (.string (ofL s))) : Calls Tryz.prog 91 #[prV y, .pointer (some ⟨b, 0, none⟩)] w fun e w' => e = .returned (.bool (y.key == s)) ∧ Below w.heap.size w w' := by
  have hbl := World.block_lt_of_cell? w _ h
  simp only at hbl
  obtain ⟨yn, yl, ys, yb⟩ := y
  have HN := str_same yn s
  generalize (yn == s) = B at *
  simp only [prV] at *
  go_enter Tryz.func91, Tryz.ntmps91
  go_wp2_with fail
  go_ret
  exact ⟨rfl, (Below.refl _ _).alloc (Nat.le_refl _) _⟩
/-- a closure that tells of a pair, and writes nothing that was there -/
def TellsPr (f : Nat) (c : Array Value) (q : Hd.Pr → Bool) (w : World) : Prop :=
  ∀ (W : World) (x : Hd.Pr), Below w.heap.size w W → Calls Tryz.prog f (#[prV x] ++ c) W fun e w' => e = .returned (.bool (q x)) ∧ Below W.heap.size W w'
def IdxPr (q : Hd.Pr → Bool) (l : List Hd.Pr) (w : World) (g : Nat) (i : Value) (wr : World) : Prop :=
  ∃ k : Nat, k + g = l.length ∧ i = .int .i64 (k : Int) ∧ (∀ j, j < k → q (l.getD j Hd.Pr.zero) = false) ∧ Below w.heap.size w wr
theorem hfind1_tells (s : List UInt8) (b : Nat) (w : World) (h : w.cell? ⟨b, 0, none⟩ = some (.string (ofL s))) : TellsPr 91 #[.pointer (some ⟨b, 0, none⟩)] (fun x => x.key == s) w := fun W x hB =>
  hfind1_any x s b W ((hB.cell (p := ⟨b, 0, none⟩) (World.block_lt_of_cell? w _ h)).trans h)
/-- the other closure that is looked with, where there is one -/
def hasOneN : Nat :=
  91
set_option maxHeartbeats 2000000 in
theorem indexPr_any (f : Nat) (b : Nat) (hf : f = 91 ∨ f = hasOneN) (q : Hd.Pr → Bool) (l : List Hd.Pr) (A : Option Addr) (c : Nat) (w : World) (hl : l.length ≤ 100000) (hp : Prs w A l) (ht : TellsPr f #[.pointer (some ⟨b, 0, none⟩)] q w) :
    Calls Tryz.prog 90 #[.slice A l.length c, .func (.func f) #[] #[.pointer (some ⟨b, 0, none⟩)]] w fun e w' => e = .returned (.int .i64 (idx q l)) ∧ Below w.heap.size w w' := by
  have HP := Lib.hid hp
  unfold hasOneN at hf
  have HT := Lib.hid ht
  have HNONE := Lib.hid (fun h => idx_none (q := q) (l := l) Hd.Pr.zero h)
  have HSOME := Lib.hid (fun k (hk : k < l.length) h hq => idx_some (q := q) (l := l) Hd.Pr.zero hk h hq)
  clear hp ht
  generalize idx q l = M at *
  obtain ⟨n, hn⟩ : ∃ n, n = l.length := ⟨_, rfl⟩
  rw [← hn]
  have HN := Lib.hid hn
  have hnl : n ≤ 100000 := by omega
  clear hn
  rcases hf with rfl | rfl
  all_goals
    go_enter Tryz.func90, Tryz.ntmps90
    go_wp2_with fail
    go_loopg [8] n (fun g i wr => IdxPr q l w g i wr)
    case atStart => exact ⟨0, by have := HN.out; omega, rfl, fun j hj => absurd hj (by omega), Below.refl _ _⟩
    case round =>
      obtain ⟨k, hk, rfl, hno, hB⟩ := hrel
      have HB := Lib.hid hB
      have HNO := Lib.hid hno
      have HK := Lib.hid hk
      clear hB hno hk
      by_cases hlt : k < n
      · obtain ⟨b, off, rfl, hbl, hat⟩ := (HP.out.on HB.out).at_ k (by have := HN.out; omega)
        obtain ⟨c0, c1, c2, c3⟩ := hat
        have HC := Lib.hid (HT.out wr (Hd.pr l k) HB.out)
        have HQ : Hid (∀ h, q (Hd.pr l k) = true → M = (k : Int)) := fun h hq => HSOME.out k (by have := HN.out; omega) h hq
        cases hq : q (Hd.pr l k) with
        | true =>
          have HM := Lib.hid (HQ.out HNO.out hq)
          rw [hq] at HC
          clear hq
          generalize Hd.pr l k = x at *
          obtain ⟨xn, xl, xs, xb⟩ := x
          simp only [prV] at HC c0 c1 c2 c3
          go_wp2_with fail
          refine HC.out.mono ?_
          rintro e w' ⟨rfl, hB1⟩
          have HB1 := Lib.hid (HB.out.trans (hB1.mono HB.out.size))
          clear hB1
          go_wp2_with fail
          go_ret
          exact ⟨ret_nat HM.out.symm, HB1.out⟩
        | false =>
          have HNEXT : Hid (∀ j, j < k + 1 → q (l.getD j Hd.Pr.zero) = false) := fun j hj => by
            by_cases e : j = k
            · rw [e]; exact hq
            · exact HNO.out j (by omega)
          rw [hq] at HC
          clear hq
          generalize Hd.pr l k = x at *
          obtain ⟨xn, xl, xs, xb⟩ := x
          simp only [prV] at HC c0 c1 c2 c3
          go_wp2_with fail
          refine HC.out.mono ?_
          rintro e w' ⟨rfl, hB1⟩
          have HB1 := Lib.hid (HB.out.trans (hB1.mono HB.out.size))
          clear hB1
          go_wp2_with fail
          go_roundg (gk - 1)
          case rel => exact ⟨k + 1, by have := HK.out; have := HN.out; omega, by go_num, HNEXT.out, HB1.out⟩
          case measure => have := HK.out; have := HN.out; omega
      · have HM := Lib.hid (HNONE.out (fun i hi => HNO.out i (by have := HN.out; omega)))
        go_wp2_with fail
        go_ret
        exact ⟨ret_nat HM.out.symm, HB.out⟩
end Go.Proofs.YtnjlhafhgfpfiaaGreatDoor
end
