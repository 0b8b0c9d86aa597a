/-
 A part of the proof.
-/
import Derived.Test.YtaikigponkjkgaaGreatDoorXr06

section
namespace Go.Proofs.YtaikigponkjkgaaGreatDoor
open Go.ChangeShapes Go.WideShapes Go.ChangeAt Go.RowKit
open Go.Lib (hid)
theorem str_some {t : List UInt8} (h : t ≠ []) : (ofL t).toList.isEmpty = false := str_ne (fun e => h (List.length_eq_zero_iff.1 e))
theorem bad_name {k : List UInt8} {kd : Nat} {n : Int} {t : List UInt8} (h : Wrd.nameCode k ≠ 0) : Hd.bad ⟨k, kd, n, t⟩ = Wrd.nameCode k := by unfold Hd.bad; rw [if_pos h]
set_option maxRecDepth 100000 in
set_option maxHeartbeats 16000000 in
theorem hcheck_any (k : List UInt8) (kd : Nat) (n : Int) (t : List UInt8) (l : List Hd.Pr) (A : Option Addr) (c : Nat) (w : World) (hk : k.length ≤ 100000) (ht : t.length ≤ 100000) (hl : l.length ≤ 100000) (hp : Prs w A l) :
  Calls Tryz.prog 120 #[.agg #[.string (ofL k), .int .u8 (kd : Int), .int .i64 n, .string (ofL t)], .slice A l.length c] w fun e w' => e = .returned (.int .i64 (Hd.pcode ⟨k, kd, n, t⟩ l : Int)) ∧ Below w.heap.size w w' := by
 have HP := hid hp
 have HNM := hid (fun W => name_any k W hk)
 have hsz : (ofL t).size = t.length := ofL_size t
 clear hp
 have HB0 := hid (show Below w.heap.size w (w.alloc (.cells #[.string (ofL k), .int .u8 (kd : Int), .int .i64 n, .string (ofL t)] 142)) from (Below.refl _ _).alloc (Nat.le_refl _) _)
 have HA0 := hid (PrAt.new ⟨k, kd, n, t⟩ w)
 by_cases hnm : Wrd.nameCode k = 0
 ·rw [hnm] at HNM
  have HF := hid (fun W h => hfind_any l A c k W hl h)
  have HP0 := hid (HP.out.on HB0.out)
  obtain ⟨T, hT⟩ : ∃ T, Hd.there l k = T := ⟨_, rfl⟩
  obtain ⟨f0, hf0⟩ : ∃ f0, first l k = f0 := ⟨_, rfl⟩
  have hfv : findV l k = .tuple #[prV f0, .bool T] := by unfold findV; rw [hf0, hT]
  rw [hfv] at HF
  clear hf0 hfv
  obtain ⟨f1, f2, f3, f4⟩ := f0
  simp only [prV] at HF
  have HT := hid hT
  have HNN := hid hnm
  clear hT hnm
  go_enter Tryz.func120, Tryz.ntmps120
  go_wp2_with fail
  refine (HNM.out _).mono ?_
  rintro e w' ⟨rfl, rfl⟩
  go_wp2_with fail
  refine (HF.out _ HP0.out).mono ?_
  rintro e w1 ⟨rfl, hB⟩
  have HB1 := hid (bthen HB0.out hB (Nat.le_refl _))
  have hlt : w.heap.size < (w.alloc (.cells #[.string (ofL k), .int .u8 (kd : Int), .int .i64 n, .string (ofL t)] 142)).heap.size := by simp
  have HA1 := hid (HA0.out.below hB hlt)
  have hlt1 : w.heap.size < w1.heap.size := Nat.lt_of_lt_of_le hlt hB.size
  clear hB hlt
  have HAX := hid (HA1.out.below ((Below.refl w1.heap.size w1).alloc (Nat.le_refl _) (.cells #[.string (ofL f1), .int .u8 (f2 : Int), .int .i64 f3, .string (ofL f4)] 142)) hlt1)
  have HB2 := hid (HB1.out.alloc HB1.out.size (.cells #[.string (ofL f1), .int .u8 (f2 : Int), .int .i64 f3, .string (ofL f4)] 142))
  clear HB0 HA0 HP0 HNM HF HP HA1
  by_cases h3 : 2 < kd
  ·have hx : decide ((3 : Int) ≤ (kd : Int)) = true := decide_eq_true (by omega)
   have hx2 : decide ((2 : Int) < (kd : Int)) = true := decide_eq_true (by omega)
   have HC := hid (show Hd.pcode ⟨k, kd, n, t⟩ l = 8 from pcode_bad (by simp [Hd.bad, HNN.out, h3]) (by decide))
   have c0 := HAX.out.c0
   have c1 : _ = some (Value.int .u8 ((kd : Int))) := HAX.out.c1
   have c2 : _ = some (Value.int .i64 (n)) := HAX.out.c2
   have c3 : _ = some (Value.string (ofL t)) := HAX.out.c3
   simp only [Nat.zero_add] at c0 c1 c2 c3
   go_wp2_with fail
   go_ret
   exact ⟨ret_nat (by rw [HC.out]; rfl), HB2.out⟩
  ·obtain rfl | rfl | rfl : kd = 0 ∨ kd = 1 ∨ kd = 2 := by omega
   ·clear h3
    by_cases hte : t = []
    ·subst hte
     cases T with
     | true =>
      have HC := hid (show Hd.pcode ⟨k, 0, n, []⟩ l = 9 from (pcode_good (p := ⟨k, 0, n, []⟩) (by simp [Hd.bad, HNN.out]) _ HT.out))
      have c0 := HAX.out.c0
      have c1 : _ = some (Value.int .u8 (0)) := HAX.out.c1
      have c2 : _ = some (Value.int .i64 (n)) := HAX.out.c2
      have c3 : _ = some (Value.string (⟨#[]⟩)) := HAX.out.c3
      simp only [Nat.zero_add] at c0 c1 c2 c3
      go_wp2_with fail
      go_ret
      exact ⟨ret_nat (by rw [HC.out]; rfl), HB2.out⟩
     | false =>
      have HC := hid (show Hd.pcode ⟨k, 0, n, []⟩ l = 0 from (pcode_good (p := ⟨k, 0, n, []⟩) (by simp [Hd.bad, HNN.out]) _ HT.out))
      have c0 := HAX.out.c0
      have c1 : _ = some (Value.int .u8 (0)) := HAX.out.c1
      have c2 : _ = some (Value.int .i64 (n)) := HAX.out.c2
      have c3 : _ = some (Value.string (⟨#[]⟩)) := HAX.out.c3
      simp only [Nat.zero_add] at c0 c1 c2 c3
      go_wp2_with fail
      go_ret
      exact ⟨ret_nat (by rw [HC.out]; rfl), HB2.out⟩
    ·have hts := str_some hte
     have HC := hid (show Hd.pcode ⟨k, 0, n, t⟩ l = 4 from pcode_bad (by simp [Hd.bad, HNN.out, hte]) (by decide))
     have c0 := HAX.out.c0
     have c1 : _ = some (Value.int .u8 (0)) := HAX.out.c1
     have c2 : _ = some (Value.int .i64 (n)) := HAX.out.c2
     have c3 : _ = some (Value.string (ofL t)) := HAX.out.c3
     simp only [Nat.zero_add] at c0 c1 c2 c3
     go_wp2_with fail
     go_ret
     exact ⟨ret_nat (by rw [HC.out]; rfl), HB2.out⟩
   ·clear h3
    by_cases hlen : 64 < t.length
    ·have hlen2 : 64 < (ofL t).size := by omega
     have HC := hid (show Hd.pcode ⟨k, 1, n, t⟩ l = 5 from pcode_bad (by simp [Hd.bad, HNN.out, hlen]) (by decide))
     have c0 := HAX.out.c0
     have c1 : _ = some (Value.int .u8 (1)) := HAX.out.c1
     have c2 : _ = some (Value.int .i64 (n)) := HAX.out.c2
     have c3 : _ = some (Value.string (ofL t)) := HAX.out.c3
     simp only [Nat.zero_add] at c0 c1 c2 c3
     go_wp2_with fail
     go_ret
     exact ⟨ret_nat (by rw [HC.out]; rfl), HB2.out⟩
    ·have hlen2 : ¬ 64 < (ofL t).size := by omega
     by_cases hn0 : n = 0
     ·subst hn0
      cases T with
      | true =>
       have HC := hid (show Hd.pcode ⟨k, 1, 0, t⟩ l = 9 from (pcode_good (p := ⟨k, 1, 0, t⟩) (by simp [Hd.bad, HNN.out, hlen]) _ HT.out))
       have c0 := HAX.out.c0
       have c1 : _ = some (Value.int .u8 (1)) := HAX.out.c1
       have c2 : _ = some (Value.int .i64 (0)) := HAX.out.c2
       have c3 : _ = some (Value.string (ofL t)) := HAX.out.c3
       simp only [Nat.zero_add] at c0 c1 c2 c3
       go_wp2_with fail
       go_ret
       exact ⟨ret_nat (by rw [HC.out]; rfl), HB2.out⟩
      | false =>
       have HC := hid (show Hd.pcode ⟨k, 1, 0, t⟩ l = 0 from (pcode_good (p := ⟨k, 1, 0, t⟩) (by simp [Hd.bad, HNN.out, hlen]) _ HT.out))
       have c0 := HAX.out.c0
       have c1 : _ = some (Value.int .u8 (1)) := HAX.out.c1
       have c2 : _ = some (Value.int .i64 (0)) := HAX.out.c2
       have c3 : _ = some (Value.string (ofL t)) := HAX.out.c3
       simp only [Nat.zero_add] at c0 c1 c2 c3
       go_wp2_with fail
       go_ret
       exact ⟨ret_nat (by rw [HC.out]; rfl), HB2.out⟩
     ·have hnb : (n != 0) = true := bne_iff_ne.2 hn0
      have HC := hid (show Hd.pcode ⟨k, 1, n, t⟩ l = 4 from pcode_bad (by simp [Hd.bad, HNN.out, hlen, hn0]) (by decide))
      have c0 := HAX.out.c0
      have c1 : _ = some (Value.int .u8 (1)) := HAX.out.c1
      have c2 : _ = some (Value.int .i64 (n)) := HAX.out.c2
      have c3 : _ = some (Value.string (ofL t)) := HAX.out.c3
      simp only [Nat.zero_add] at c0 c1 c2 c3
      go_wp2_with fail
      go_ret
      exact ⟨ret_nat (by rw [HC.out]; rfl), HB2.out⟩
   ·clear h3
    by_cases hn0 : n = 0
    ·subst hn0
     by_cases hte : t = []
     ·subst hte
      cases T with
      | true =>
       have HC := hid (show Hd.pcode ⟨k, 2, 0, []⟩ l = 9 from (pcode_good (p := ⟨k, 2, 0, []⟩) (by simp [Hd.bad, HNN.out]) _ HT.out))
       have c0 := HAX.out.c0
       have c1 : _ = some (Value.int .u8 (2)) := HAX.out.c1
       have c2 : _ = some (Value.int .i64 (0)) := HAX.out.c2
       have c3 : _ = some (Value.string (⟨#[]⟩)) := HAX.out.c3
       simp only [Nat.zero_add] at c0 c1 c2 c3
       go_wp2_with fail
       go_ret
       exact ⟨ret_nat (by rw [HC.out]; rfl), HB2.out⟩
      | false =>
       have HC := hid (show Hd.pcode ⟨k, 2, 0, []⟩ l = 0 from (pcode_good (p := ⟨k, 2, 0, []⟩) (by simp [Hd.bad, HNN.out]) _ HT.out))
       have c0 := HAX.out.c0
       have c1 : _ = some (Value.int .u8 (2)) := HAX.out.c1
       have c2 : _ = some (Value.int .i64 (0)) := HAX.out.c2
       have c3 : _ = some (Value.string (⟨#[]⟩)) := HAX.out.c3
       simp only [Nat.zero_add] at c0 c1 c2 c3
       go_wp2_with fail
       go_ret
       exact ⟨ret_nat (by rw [HC.out]; rfl), HB2.out⟩
     ·have hts := str_some hte
      have HC := hid (show Hd.pcode ⟨k, 2, 0, t⟩ l = 4 from pcode_bad (by simp [Hd.bad, HNN.out, hte]) (by decide))
      have c0 := HAX.out.c0
      have c1 : _ = some (Value.int .u8 (2)) := HAX.out.c1
      have c2 : _ = some (Value.int .i64 (0)) := HAX.out.c2
      have c3 : _ = some (Value.string (ofL t)) := HAX.out.c3
      simp only [Nat.zero_add] at c0 c1 c2 c3
      go_wp2_with fail
      go_ret
      exact ⟨ret_nat (by rw [HC.out]; rfl), HB2.out⟩
    ·by_cases hn1 : n = 1
     ·subst hn1
      by_cases hte : t = []
      ·subst hte
       cases T with
       | true =>
        have HC := hid (show Hd.pcode ⟨k, 2, 1, []⟩ l = 9 from (pcode_good (p := ⟨k, 2, 1, []⟩) (by simp [Hd.bad, HNN.out]) _ HT.out))
        have c0 := HAX.out.c0
        have c1 : _ = some (Value.int .u8 (2)) := HAX.out.c1
        have c2 : _ = some (Value.int .i64 (1)) := HAX.out.c2
        have c3 : _ = some (Value.string (⟨#[]⟩)) := HAX.out.c3
        simp only [Nat.zero_add] at c0 c1 c2 c3
        go_wp2_with fail
        go_ret
        exact ⟨ret_nat (by rw [HC.out]; rfl), HB2.out⟩
       | false =>
        have HC := hid (show Hd.pcode ⟨k, 2, 1, []⟩ l = 0 from (pcode_good (p := ⟨k, 2, 1, []⟩) (by simp [Hd.bad, HNN.out]) _ HT.out))
        have c0 := HAX.out.c0
        have c1 : _ = some (Value.int .u8 (2)) := HAX.out.c1
        have c2 : _ = some (Value.int .i64 (1)) := HAX.out.c2
        have c3 : _ = some (Value.string (⟨#[]⟩)) := HAX.out.c3
        simp only [Nat.zero_add] at c0 c1 c2 c3
        go_wp2_with fail
        go_ret
        exact ⟨ret_nat (by rw [HC.out]; rfl), HB2.out⟩
      ·have hts := str_some hte
       have HC := hid (show Hd.pcode ⟨k, 2, 1, t⟩ l = 4 from pcode_bad (by simp [Hd.bad, HNN.out, hte]) (by decide))
       have c0 := HAX.out.c0
       have c1 : _ = some (Value.int .u8 (2)) := HAX.out.c1
       have c2 : _ = some (Value.int .i64 (1)) := HAX.out.c2
       have c3 : _ = some (Value.string (ofL t)) := HAX.out.c3
       simp only [Nat.zero_add] at c0 c1 c2 c3
       go_wp2_with fail
       go_ret
       exact ⟨ret_nat (by rw [HC.out]; rfl), HB2.out⟩
     ·have hnb : (n == 0) = false := beq_eq_false_iff_ne.2 hn0
      have hnb1 : (n == 1) = false := beq_eq_false_iff_ne.2 hn1
      have hnc : (n != 0) = true := bne_iff_ne.2 hn0
      have hnc1 : (n != 1) = true := bne_iff_ne.2 hn1
      by_cases hneg : n < 0
      ·have hle : ¬ 1 < n := by omega
       have HC := hid (show Hd.pcode ⟨k, 2, n, t⟩ l = 7 from pcode_bad (by simp [Hd.bad, HNN.out, hn0, hn1]) (by decide))
       have c0 := HAX.out.c0
       have c1 : _ = some (Value.int .u8 (2)) := HAX.out.c1
       have c2 : _ = some (Value.int .i64 (n)) := HAX.out.c2
       have c3 : _ = some (Value.string (ofL t)) := HAX.out.c3
       simp only [Nat.zero_add] at c0 c1 c2 c3
       go_wp2_with fail
       go_ret
       exact ⟨ret_nat (by rw [HC.out]; rfl), HB2.out⟩
      ·have hgt : 1 < n := by omega
       have HC := hid (show Hd.pcode ⟨k, 2, n, t⟩ l = 7 from pcode_bad (by simp [Hd.bad, HNN.out, hn0, hn1]) (by decide))
       have c0 := HAX.out.c0
       have c1 : _ = some (Value.int .u8 (2)) := HAX.out.c1
       have c2 : _ = some (Value.int .i64 (n)) := HAX.out.c2
       have c3 : _ = some (Value.string (ofL t)) := HAX.out.c3
       simp only [Nat.zero_add] at c0 c1 c2 c3
       go_wp2_with fail
       go_ret
       exact ⟨ret_nat (by rw [HC.out]; rfl), HB2.out⟩
 ·have HC := hid (show Hd.pcode ⟨k, kd, n, t⟩ l = Wrd.nameCode k from pcode_bad (bad_name hnm) hnm)
  have hne := code_ne hnm
  clear hnm
  go_enter Tryz.func120, Tryz.ntmps120
  go_wp2_with fail
  refine (HNM.out _).mono ?_
  rintro e w' ⟨rfl, rfl⟩
  go_wp2_with fail
  go_ret
  exact ⟨ret_nat (by rw [HC.out]), HB0.out⟩
theorem there_yes {l : List Hd.Pr} {k : List UInt8} {i : Nat} (h : i < l.length) (hk : ((Hd.pr l i).key == k) = true) : Hd.there l k = true :=
 List.any_eq_true.2 ⟨l[i], List.getElem_mem h, by rw [Hd.pr_at h] at hk; exact hk⟩
theorem there_no {l : List Hd.Pr} {k : List UInt8} (h : ∀ i, i < l.length → ((Hd.pr l i).key == k) = false) : Hd.there l k = false := by
 unfold Hd.there
 rw [List.any_eq_false]
 intro x hx
 obtain ⟨i, hi, rfl⟩ := List.getElem_of_mem hx
 have := h i hi
 rw [Hd.pr_at hi] at this
 rw [this]; simp
def PairSt (l : List Hd.Pr) (k : List UInt8) (p : Hd.Pr) (w : World) (g : Nat) (i : Value) (wr : World) : Prop :=
 ∃ j : Nat, j + g = l.length ∧ i = .int .i64 (j : Int) ∧ (∀ m, m < j → ((Hd.pr l m).key == k) = false) ∧ PrAt wr w.heap.size 0 p ∧ Below w.heap.size w wr
set_option maxRecDepth 100000 in
set_option maxHeartbeats 16000000 in
theorem rpair_any (k : List UInt8) (kd : Nat) (n : Int) (t : List UInt8) (l : List Hd.Pr) (A : Option Addr) (c : Nat) (w : World) (hk : k.length ≤ 100000) (ht : t.length ≤ 100000) (hl : l.length ≤ 100000) (hp : Prs w A l) :
  Calls Tryz.prog 117 #[.agg #[.string (ofL k), .int .u8 (kd : Int), .int .i64 n, .string (ofL t)], .slice A l.length c] w fun e w' => e = .returned (.int .i64 (Hd.pcode ⟨k, kd, n, t⟩ l : Int)) ∧ Below w.heap.size w w' := by
 have HP := hid hp
 have HNM := hid (fun W => rname_any k W hk)
 have hsz : (ofL t).size = t.length := ofL_size t
 clear hp
 have HB0 := hid (show Below w.heap.size w (w.alloc (.cells #[.string (ofL k), .int .u8 (kd : Int), .int .i64 n, .string (ofL t)] 142)) from (Below.refl _ _).alloc (Nat.le_refl _) _)
 have HAX := hid (PrAt.new ⟨k, kd, n, t⟩ w)
 by_cases hnm : Wrd.nameCode k = 0
 ·rw [hnm] at HNM
  have HNN := hid hnm
  clear hnm
  go_enter Tryz.func117, Tryz.ntmps117
  go_wp2_with fail
  refine (HNM.out _).mono ?_
  rintro e w' ⟨rfl, rfl⟩
  by_cases h3 : 2 < kd
  ·have hx : decide ((3 : Int) ≤ (kd : Int)) = true := decide_eq_true (by omega)
   have hx2 : decide ((2 : Int) < (kd : Int)) = true := decide_eq_true (by omega)
   have HC := hid (show Hd.pcode ⟨k, kd, n, t⟩ l = 8 from pcode_bad (by simp [Hd.bad, HNN.out, h3]) (by decide))
   have c0 := HAX.out.c0
   have c1 : _ = some (Value.int .u8 ((kd : Int))) := HAX.out.c1
   have c2 : _ = some (Value.int .i64 (n)) := HAX.out.c2
   have c3 : _ = some (Value.string (ofL t)) := HAX.out.c3
   simp only [Nat.zero_add] at c0 c1 c2 c3
   go_wp2_with fail
   go_ret
   exact ⟨ret_nat (by rw [HC.out]; rfl), HB0.out⟩
  ·obtain rfl | rfl | rfl : kd = 0 ∨ kd = 1 ∨ kd = 2 := by omega
   ·clear h3
    by_cases hte : t = []
    ·subst hte
     have hGood : ∀ b, Hd.there l k = b → Hd.pcode ⟨k, 0, n, []⟩ l = if b then 9 else 0 := fun b hb => pcode_good (p := ⟨k, 0, n, []⟩) (by simp [Hd.bad, HNN.out]) _ hb
     have HGood := hid hGood
     clear hGood
     have c0 := HAX.out.c0
     have c1 : _ = some (Value.int .u8 (0)) := HAX.out.c1
     have c2 : _ = some (Value.int .i64 (n)) := HAX.out.c2
     have c3 : _ = some (Value.string (⟨#[]⟩)) := HAX.out.c3
     simp only [Nat.zero_add] at c0 c1 c2 c3
     have hemp : (ofL []).toList.isEmpty = true := by rw [str_list]; rfl
     go_wp2_with fail
     clear hemp
     clear c0 c1 c2 c3
     go_loopg [59] l.length (fun g i wr => PairSt l k ⟨k, 0, n, []⟩ w g i wr)
     case atStart => exact ⟨0, by omega, rfl, fun j hj => absurd hj (by omega), HAX.out, HB0.out⟩
     case round =>
      obtain ⟨i, hi, rfl, hno, hbox, hBl⟩ := hrel
      have HNO := hid hno
      have HBOX := hid hbox
      have HBL := hid hBl
      have hwl : w.heap.size < wr.heap.size := World.block_lt_of_cell? wr _ hbox.c0
      clear hno hbox hBl
      by_cases hlt : i < l.length
      ·obtain ⟨b, off, rfl, hbl, hat⟩ := (HP.out.on HBL.out).at_ i hlt
       obtain ⟨e0, e1, e2, e3⟩ := hat
       obtain ⟨x, hx⟩ : ∃ x, Hd.pr l i = x := ⟨_, rfl⟩
       have HX := hid hx
       rw [hx] at e0 e1 e2 e3
       clear hx
       obtain ⟨x1, x2, x3, x4⟩ := x
       simp only at e0 e1 e2 e3
       have HN := hid (HBOX.out.below ((Below.refl wr.heap.size wr).alloc (Nat.le_refl _) (.cells #[.string (ofL x1), .int .u8 (x2 : Int), .int .i64 x3, .string (ofL x4)] 142)) hwl)
       have c0 := HN.out.c0
       have hq := str_same x1 k
       cases hk : x1 == k with
       | true =>
        have HC := hid (show Hd.pcode ⟨k, 0, n, []⟩ l = 9 from HGood.out true (there_yes hlt (by rw [HX.out]; exact hk)))
        rw [hk] at hq
        clear hk
        go_wp2_with fail
        go_ret
        exact ⟨ret_nat (by rw [HC.out]; rfl), HBL.out.alloc HBL.out.size _⟩
       | false =>
        have HNX := hid (show ∀ j, j < i + 1 → ((Hd.pr l j).key == k) = false from fun j hj => by
         by_cases e : j = i
         ·rw [e, HX.out]; exact hk
         ·exact HNO.out j (by omega))
        rw [hk] at hq
        clear hk
        go_wp2_with fail
        go_roundg (gk - 1)
        case rel => exact ⟨i + 1, by omega, by go_num, HNX.out, HN.out, HBL.out.alloc HBL.out.size _⟩
        case measure => omega
      ·have HC := hid (show Hd.pcode ⟨k, 0, n, []⟩ l = 0 from HGood.out false (there_no fun j hj => HNO.out j (by omega)))
       go_wp2_with fail
       go_ret
       exact ⟨ret_nat (by rw [HC.out]; rfl), HBL.out⟩
    ·have hts := str_some hte
     have HC := hid (show Hd.pcode ⟨k, 0, n, t⟩ l = 4 from pcode_bad (by simp [Hd.bad, HNN.out, hte]) (by decide))
     have c0 := HAX.out.c0
     have c1 : _ = some (Value.int .u8 (0)) := HAX.out.c1
     have c2 : _ = some (Value.int .i64 (n)) := HAX.out.c2
     have c3 : _ = some (Value.string (ofL t)) := HAX.out.c3
     simp only [Nat.zero_add] at c0 c1 c2 c3
     go_wp2_with fail
     go_ret
     exact ⟨ret_nat (by rw [HC.out]; rfl), HB0.out⟩
   ·clear h3
    by_cases hlen : 64 < t.length
    ·have hlen2 : 64 < (ofL t).size := by omega
     have HC := hid (show Hd.pcode ⟨k, 1, n, t⟩ l = 5 from pcode_bad (by simp [Hd.bad, HNN.out, hlen]) (by decide))
     have c0 := HAX.out.c0
     have c1 : _ = some (Value.int .u8 (1)) := HAX.out.c1
     have c2 : _ = some (Value.int .i64 (n)) := HAX.out.c2
     have c3 : _ = some (Value.string (ofL t)) := HAX.out.c3
     simp only [Nat.zero_add] at c0 c1 c2 c3
     go_wp2_with fail
     go_ret
     exact ⟨ret_nat (by rw [HC.out]; rfl), HB0.out⟩
    ·have hlen2 : ¬ 64 < (ofL t).size := by omega
     by_cases hn0 : n = 0
     ·subst hn0
      have hGood : ∀ b, Hd.there l k = b → Hd.pcode ⟨k, 1, 0, t⟩ l = if b then 9 else 0 := fun b hb => pcode_good (p := ⟨k, 1, 0, t⟩) (by simp [Hd.bad, HNN.out, hlen]) _ hb
      have HGood := hid hGood
      clear hGood
      have c0 := HAX.out.c0
      have c1 : _ = some (Value.int .u8 (1)) := HAX.out.c1
      have c2 : _ = some (Value.int .i64 (0)) := HAX.out.c2
      have c3 : _ = some (Value.string (ofL t)) := HAX.out.c3
      simp only [Nat.zero_add] at c0 c1 c2 c3
      have hemp : (ofL []).toList.isEmpty = true := by rw [str_list]; rfl
      go_wp2_with fail
      clear hemp
      clear c0 c1 c2 c3
      go_loopg [59] l.length (fun g i wr => PairSt l k ⟨k, 1, 0, t⟩ w g i wr)
      case atStart => exact ⟨0, by omega, rfl, fun j hj => absurd hj (by omega), HAX.out, HB0.out⟩
      case round =>
       obtain ⟨i, hi, rfl, hno, hbox, hBl⟩ := hrel
       have HNO := hid hno
       have HBOX := hid hbox
       have HBL := hid hBl
       have hwl : w.heap.size < wr.heap.size := World.block_lt_of_cell? wr _ hbox.c0
       clear hno hbox hBl
       by_cases hlt : i < l.length
       ·obtain ⟨b, off, rfl, hbl, hat⟩ := (HP.out.on HBL.out).at_ i hlt
        obtain ⟨e0, e1, e2, e3⟩ := hat
        obtain ⟨x, hx⟩ : ∃ x, Hd.pr l i = x := ⟨_, rfl⟩
        have HX := hid hx
        rw [hx] at e0 e1 e2 e3
        clear hx
        obtain ⟨x1, x2, x3, x4⟩ := x
        simp only at e0 e1 e2 e3
        have HN := hid (HBOX.out.below ((Below.refl wr.heap.size wr).alloc (Nat.le_refl _) (.cells #[.string (ofL x1), .int .u8 (x2 : Int), .int .i64 x3, .string (ofL x4)] 142)) hwl)
        have c0 := HN.out.c0
        have hq := str_same x1 k
        cases hk : x1 == k with
        | true =>
         have HC := hid (show Hd.pcode ⟨k, 1, 0, t⟩ l = 9 from HGood.out true (there_yes hlt (by rw [HX.out]; exact hk)))
         rw [hk] at hq
         clear hk
         go_wp2_with fail
         go_ret
         exact ⟨ret_nat (by rw [HC.out]; rfl), HBL.out.alloc HBL.out.size _⟩
        | false =>
         have HNX := hid (show ∀ j, j < i + 1 → ((Hd.pr l j).key == k) = false from fun j hj => by
          by_cases e : j = i
          ·rw [e, HX.out]; exact hk
          ·exact HNO.out j (by omega))
         rw [hk] at hq
         clear hk
         go_wp2_with fail
         go_roundg (gk - 1)
         case rel => exact ⟨i + 1, by omega, by go_num, HNX.out, HN.out, HBL.out.alloc HBL.out.size _⟩
         case measure => omega
       ·have HC := hid (show Hd.pcode ⟨k, 1, 0, t⟩ l = 0 from HGood.out false (there_no fun j hj => HNO.out j (by omega)))
        go_wp2_with fail
        go_ret
        exact ⟨ret_nat (by rw [HC.out]; rfl), HBL.out⟩
     ·have hnb : (n != 0) = true := bne_iff_ne.2 hn0
      have HC := hid (show Hd.pcode ⟨k, 1, n, t⟩ l = 4 from pcode_bad (by simp [Hd.bad, HNN.out, hlen, hn0]) (by decide))
      have c0 := HAX.out.c0
      have c1 : _ = some (Value.int .u8 (1)) := HAX.out.c1
      have c2 : _ = some (Value.int .i64 (n)) := HAX.out.c2
      have c3 : _ = some (Value.string (ofL t)) := HAX.out.c3
      simp only [Nat.zero_add] at c0 c1 c2 c3
      go_wp2_with fail
      go_ret
      exact ⟨ret_nat (by rw [HC.out]; rfl), HB0.out⟩
   ·clear h3
    by_cases hn0 : n = 0
    ·subst hn0
     by_cases hte : t = []
     ·subst hte
      have hGood : ∀ b, Hd.there l k = b → Hd.pcode ⟨k, 2, 0, []⟩ l = if b then 9 else 0 := fun b hb => pcode_good (p := ⟨k, 2, 0, []⟩) (by simp [Hd.bad, HNN.out]) _ hb
      have HGood := hid hGood
      clear hGood
      have c0 := HAX.out.c0
      have c1 : _ = some (Value.int .u8 (2)) := HAX.out.c1
      have c2 : _ = some (Value.int .i64 (0)) := HAX.out.c2
      have c3 : _ = some (Value.string (⟨#[]⟩)) := HAX.out.c3
      simp only [Nat.zero_add] at c0 c1 c2 c3
      have hemp : (ofL []).toList.isEmpty = true := by rw [str_list]; rfl
      go_wp2_with fail
      clear hemp
      clear c0 c1 c2 c3
      go_loopg [59] l.length (fun g i wr => PairSt l k ⟨k, 2, 0, []⟩ w g i wr)
      case atStart => exact ⟨0, by omega, rfl, fun j hj => absurd hj (by omega), HAX.out, HB0.out⟩
      case round =>
       obtain ⟨i, hi, rfl, hno, hbox, hBl⟩ := hrel
       have HNO := hid hno
       have HBOX := hid hbox
       have HBL := hid hBl
       have hwl : w.heap.size < wr.heap.size := World.block_lt_of_cell? wr _ hbox.c0
       clear hno hbox hBl
       by_cases hlt : i < l.length
       ·obtain ⟨b, off, rfl, hbl, hat⟩ := (HP.out.on HBL.out).at_ i hlt
        obtain ⟨e0, e1, e2, e3⟩ := hat
        obtain ⟨x, hx⟩ : ∃ x, Hd.pr l i = x := ⟨_, rfl⟩
        have HX := hid hx
        rw [hx] at e0 e1 e2 e3
        clear hx
        obtain ⟨x1, x2, x3, x4⟩ := x
        simp only at e0 e1 e2 e3
        have HN := hid (HBOX.out.below ((Below.refl wr.heap.size wr).alloc (Nat.le_refl _) (.cells #[.string (ofL x1), .int .u8 (x2 : Int), .int .i64 x3, .string (ofL x4)] 142)) hwl)
        have c0 := HN.out.c0
        have hq := str_same x1 k
        cases hk : x1 == k with
        | true =>
         have HC := hid (show Hd.pcode ⟨k, 2, 0, []⟩ l = 9 from HGood.out true (there_yes hlt (by rw [HX.out]; exact hk)))
         rw [hk] at hq
         clear hk
         go_wp2_with fail
         go_ret
         exact ⟨ret_nat (by rw [HC.out]; rfl), HBL.out.alloc HBL.out.size _⟩
        | false =>
         have HNX := hid (show ∀ j, j < i + 1 → ((Hd.pr l j).key == k) = false from fun j hj => by
          by_cases e : j = i
          ·rw [e, HX.out]; exact hk
          ·exact HNO.out j (by omega))
         rw [hk] at hq
         clear hk
         go_wp2_with fail
         go_roundg (gk - 1)
         case rel => exact ⟨i + 1, by omega, by go_num, HNX.out, HN.out, HBL.out.alloc HBL.out.size _⟩
         case measure => omega
       ·have HC := hid (show Hd.pcode ⟨k, 2, 0, []⟩ l = 0 from HGood.out false (there_no fun j hj => HNO.out j (by omega)))
        go_wp2_with fail
        go_ret
        exact ⟨ret_nat (by rw [HC.out]; rfl), HBL.out⟩
     ·have hts := str_some hte
      have HC := hid (show Hd.pcode ⟨k, 2, 0, t⟩ l = 4 from pcode_bad (by simp [Hd.bad, HNN.out, hte]) (by decide))
      have c0 := HAX.out.c0
      have c1 : _ = some (Value.int .u8 (2)) := HAX.out.c1
      have c2 : _ = some (Value.int .i64 (0)) := HAX.out.c2
      have c3 : _ = some (Value.string (ofL t)) := HAX.out.c3
      simp only [Nat.zero_add] at c0 c1 c2 c3
      go_wp2_with fail
      go_ret
      exact ⟨ret_nat (by rw [HC.out]; rfl), HB0.out⟩
    ·by_cases hn1 : n = 1
     ·subst hn1
      by_cases hte : t = []
      ·subst hte
       have hGood : ∀ b, Hd.there l k = b → Hd.pcode ⟨k, 2, 1, []⟩ l = if b then 9 else 0 := fun b hb => pcode_good (p := ⟨k, 2, 1, []⟩) (by simp [Hd.bad, HNN.out]) _ hb
       have HGood := hid hGood
       clear hGood
       have c0 := HAX.out.c0
       have c1 : _ = some (Value.int .u8 (2)) := HAX.out.c1
       have c2 : _ = some (Value.int .i64 (1)) := HAX.out.c2
       have c3 : _ = some (Value.string (⟨#[]⟩)) := HAX.out.c3
       simp only [Nat.zero_add] at c0 c1 c2 c3
       have hemp : (ofL []).toList.isEmpty = true := by rw [str_list]; rfl
       go_wp2_with fail
       clear hemp
       clear c0 c1 c2 c3
       go_loopg [59] l.length (fun g i wr => PairSt l k ⟨k, 2, 1, []⟩ w g i wr)
       case atStart => exact ⟨0, by omega, rfl, fun j hj => absurd hj (by omega), HAX.out, HB0.out⟩
       case round =>
        obtain ⟨i, hi, rfl, hno, hbox, hBl⟩ := hrel
        have HNO := hid hno
        have HBOX := hid hbox
        have HBL := hid hBl
        have hwl : w.heap.size < wr.heap.size := World.block_lt_of_cell? wr _ hbox.c0
        clear hno hbox hBl
        by_cases hlt : i < l.length
        ·obtain ⟨b, off, rfl, hbl, hat⟩ := (HP.out.on HBL.out).at_ i hlt
         obtain ⟨e0, e1, e2, e3⟩ := hat
         obtain ⟨x, hx⟩ : ∃ x, Hd.pr l i = x := ⟨_, rfl⟩
         have HX := hid hx
         rw [hx] at e0 e1 e2 e3
         clear hx
         obtain ⟨x1, x2, x3, x4⟩ := x
         simp only at e0 e1 e2 e3
         have HN := hid (HBOX.out.below ((Below.refl wr.heap.size wr).alloc (Nat.le_refl _) (.cells #[.string (ofL x1), .int .u8 (x2 : Int), .int .i64 x3, .string (ofL x4)] 142)) hwl)
         have c0 := HN.out.c0
         have hq := str_same x1 k
         cases hk : x1 == k with
         | true =>
          have HC := hid (show Hd.pcode ⟨k, 2, 1, []⟩ l = 9 from HGood.out true (there_yes hlt (by rw [HX.out]; exact hk)))
          rw [hk] at hq
          clear hk
          go_wp2_with fail
          go_ret
          exact ⟨ret_nat (by rw [HC.out]; rfl), HBL.out.alloc HBL.out.size _⟩
         | false =>
          have HNX := hid (show ∀ j, j < i + 1 → ((Hd.pr l j).key == k) = false from fun j hj => by
           by_cases e : j = i
           ·rw [e, HX.out]; exact hk
           ·exact HNO.out j (by omega))
          rw [hk] at hq
          clear hk
          go_wp2_with fail
          go_roundg (gk - 1)
          case rel => exact ⟨i + 1, by omega, by go_num, HNX.out, HN.out, HBL.out.alloc HBL.out.size _⟩
          case measure => omega
        ·have HC := hid (show Hd.pcode ⟨k, 2, 1, []⟩ l = 0 from HGood.out false (there_no fun j hj => HNO.out j (by omega)))
         go_wp2_with fail
         go_ret
         exact ⟨ret_nat (by rw [HC.out]; rfl), HBL.out⟩
      ·have hts := str_some hte
       have HC := hid (show Hd.pcode ⟨k, 2, 1, t⟩ l = 4 from pcode_bad (by simp [Hd.bad, HNN.out, hte]) (by decide))
       have c0 := HAX.out.c0
       have c1 : _ = some (Value.int .u8 (2)) := HAX.out.c1
       have c2 : _ = some (Value.int .i64 (1)) := HAX.out.c2
       have c3 : _ = some (Value.string (ofL t)) := HAX.out.c3
       simp only [Nat.zero_add] at c0 c1 c2 c3
       go_wp2_with fail
       go_ret
       exact ⟨ret_nat (by rw [HC.out]; rfl), HB0.out⟩
     ·have hnb : (n == 0) = false := beq_eq_false_iff_ne.2 hn0
      have hnb1 : (n == 1) = false := beq_eq_false_iff_ne.2 hn1
      have hnc : (n != 0) = true := bne_iff_ne.2 hn0
      have hnc1 : (n != 1) = true := bne_iff_ne.2 hn1
      by_cases hneg : n < 0
      ·have hle : ¬ 1 < n := by omega
       have HC := hid (show Hd.pcode ⟨k, 2, n, t⟩ l = 7 from pcode_bad (by simp [Hd.bad, HNN.out, hn0, hn1]) (by decide))
       have c0 := HAX.out.c0
       have c1 : _ = some (Value.int .u8 (2)) := HAX.out.c1
       have c2 : _ = some (Value.int .i64 (n)) := HAX.out.c2
       have c3 : _ = some (Value.string (ofL t)) := HAX.out.c3
       simp only [Nat.zero_add] at c0 c1 c2 c3
       go_wp2_with fail
       go_ret
       exact ⟨ret_nat (by rw [HC.out]; rfl), HB0.out⟩
      ·have hgt : 1 < n := by omega
       have HC := hid (show Hd.pcode ⟨k, 2, n, t⟩ l = 7 from pcode_bad (by simp [Hd.bad, HNN.out, hn0, hn1]) (by decide))
       have c0 := HAX.out.c0
       have c1 : _ = some (Value.int .u8 (2)) := HAX.out.c1
       have c2 : _ = some (Value.int .i64 (n)) := HAX.out.c2
       have c3 : _ = some (Value.string (ofL t)) := HAX.out.c3
       simp only [Nat.zero_add] at c0 c1 c2 c3
       go_wp2_with fail
       go_ret
       exact ⟨ret_nat (by rw [HC.out]; rfl), HB0.out⟩
 ·have HC := hid (show Hd.pcode ⟨k, kd, n, t⟩ l = Wrd.nameCode k from pcode_bad (bad_name hnm) hnm)
  have hne := code_ne hnm
  clear hnm
  go_enter Tryz.func117, Tryz.ntmps117
  go_wp2_with fail
  refine (HNM.out _).mono ?_
  rintro e w' ⟨rfl, rfl⟩
  go_wp2_with fail
  go_ret
  exact ⟨ret_nat (by rw [HC.out]), HB0.out⟩
end Go.Proofs.YtaikigponkjkgaaGreatDoor
end
