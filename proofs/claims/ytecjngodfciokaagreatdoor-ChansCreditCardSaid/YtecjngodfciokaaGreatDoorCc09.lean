/-
  WHAT IS WRONG WITH A PAIR behind others: walked, the program's and the document's.
-/
import Derived.Test.YtecjngodfciokaaGreatDoorCc08

section
namespace Go.Proofs.YtecjngodfciokaaGreatDoor
open Go.ChangeShapes Go.WideShapes Go.ChangeAt Go.RowKit
theorem str_some {t : List UInt8} (h : t ≠ []) : (ofL t).toList.isEmpty = false := str_ne (fun e => h (List.length_eq_zero_iff.1 e))
theorem bad_name {k : List UInt8} {kd : Nat} {n : Int} {t : List UInt8} (h : Wrd.nameCode k ≠ 0) : Hd.bad ⟨k, kd, n, t⟩ = Wrd.nameCode k := by unfold Hd.bad; rw [if_pos h]
set_option maxRecDepth 100000 in
set_option maxHeartbeats 16000000 in
theorem hcheck_any (k : List UInt8) (kd : Nat) (n : Int) (t : List UInt8) (l : List Hd.Pr) (A : Option Addr) (c : Nat) (w : World) (hk : k.length ≤ 100000) (ht : t.length ≤ 100000) (hl : l.length ≤ 100000) (hp : Prs w A l) :
    Calls Tryz.prog 98 #[.agg #[.string (ofL k), .int .u8 (kd : Int), .int .i64 n, .string (ofL t)], .slice A l.length c] w fun e w' => e = .returned (.int .i64 (Hd.pcode ⟨k, kd, n, t⟩ l : Int)) ∧ Below w.heap.size w w' := by
  have HP := Lib.hid hp
  have HNM := Lib.hid (fun W => name_any k W hk)
  have hsz : (ofL t).size = t.length := ofL_size t
  clear hp
  have HB0 := Lib.hid (show Below w.heap.size w (w.alloc (.cells #[.string (ofL k), .int .u8 (kd : Int), .int .i64 n, .string (ofL t)] 87)) from (Below.refl _ _).alloc (Nat.le_refl _) _)
  have HA0 := Lib.hid (PrAt.new ⟨k, kd, n, t⟩ w)
  by_cases hnm : Wrd.nameCode k = 0
  · rw [hnm] at HNM
    have HF := Lib.hid (fun W h => hfind_any l A c k W hl h)
    have HP0 := Lib.hid (HP.out.on HB0.out)
    obtain ⟨T, hT⟩ : ∃ T, Hd.there l k = T := ⟨_, rfl⟩
    obtain ⟨f0, hf0⟩ : ∃ f0, first l k = f0 := ⟨_, rfl⟩
    have hfv : findV l k = .tuple #[prV f0, .bool T] := by unfold findV; rw [hf0, hT]
    rw [hfv] at HF
    clear hf0 hfv
    obtain ⟨f1, f2, f3, f4⟩ := f0
    simp only [prV] at HF
    have HT := Lib.hid hT
    have HNN := Lib.hid hnm
    clear hT hnm
    go_enter Tryz.func98, Tryz.ntmps98
    go_wp2_with fail
    refine (HNM.out _).mono ?_
    rintro e w' ⟨rfl, rfl⟩
    go_wp2_with fail
    refine (HF.out _ HP0.out).mono ?_
    rintro e w1 ⟨rfl, hB⟩
    have HB1 := Lib.hid (bthen HB0.out hB (Nat.le_refl _))
    have hlt : w.heap.size < (w.alloc (.cells #[.string (ofL k), .int .u8 (kd : Int), .int .i64 n, .string (ofL t)] 87)).heap.size := by simp
    have HA1 := Lib.hid (HA0.out.below hB hlt)
    have hlt1 : w.heap.size < w1.heap.size := Nat.lt_of_lt_of_le hlt hB.size
    clear hB hlt
    have HAX := Lib.hid (HA1.out.below ((Below.refl w1.heap.size w1).alloc (Nat.le_refl _) (.cells #[.string (ofL f1), .int .u8 (f2 : Int), .int .i64 f3, .string (ofL f4)] 87)) hlt1)
    have HB2 := Lib.hid (HB1.out.alloc HB1.out.size (.cells #[.string (ofL f1), .int .u8 (f2 : Int), .int .i64 f3, .string (ofL f4)] 87))
    clear HB0 HA0 HP0 HNM HF HP HA1
    by_cases h3 : 2 < kd
    · have hx : decide ((3 : Int) ≤ (kd : Int)) = true := decide_eq_true (by omega)
      have hx2 : decide ((2 : Int) < (kd : Int)) = true := decide_eq_true (by omega)
      have HC := Lib.hid (show Hd.pcode ⟨k, kd, n, t⟩ l = 8 from pcode_bad (by simp [Hd.bad, HNN.out, h3]) (by decide))
      have c0 := HAX.out.c0
      have c1 : _ = some (Value.int .u8 ((kd : Int))) := HAX.out.c1
      have c2 : _ = some (Value.int .i64 (n)) := HAX.out.c2
      have c3 : _ = some (Value.string (ofL t)) := HAX.out.c3
      simp only [Nat.zero_add] at c0 c1 c2 c3
      go_wp2_with fail
      go_ret
      exact ⟨ret_nat (by rw [HC.out]; rfl), HB2.out⟩
    · obtain rfl | rfl | rfl : kd = 0 ∨ kd = 1 ∨ kd = 2 := by omega
      · clear h3
        by_cases hte : t = []
        · subst hte
          cases T with
          | true =>
            have HC := Lib.hid (show Hd.pcode ⟨k, 0, n, []⟩ l = 9 from (pcode_good (p := ⟨k, 0, n, []⟩) (by simp [Hd.bad, HNN.out]) _ HT.out))
            have c0 := HAX.out.c0
            have c1 : _ = some (Value.int .u8 (0)) := HAX.out.c1
            have c2 : _ = some (Value.int .i64 (n)) := HAX.out.c2
            have c3 : _ = some (Value.string (⟨#[]⟩)) := HAX.out.c3
            simp only [Nat.zero_add] at c0 c1 c2 c3
            go_wp2_with fail
            go_ret
            exact ⟨ret_nat (by rw [HC.out]; rfl), HB2.out⟩
          | false =>
            have HC := Lib.hid (show Hd.pcode ⟨k, 0, n, []⟩ l = 0 from (pcode_good (p := ⟨k, 0, n, []⟩) (by simp [Hd.bad, HNN.out]) _ HT.out))
            have c0 := HAX.out.c0
            have c1 : _ = some (Value.int .u8 (0)) := HAX.out.c1
            have c2 : _ = some (Value.int .i64 (n)) := HAX.out.c2
            have c3 : _ = some (Value.string (⟨#[]⟩)) := HAX.out.c3
            simp only [Nat.zero_add] at c0 c1 c2 c3
            go_wp2_with fail
            go_ret
            exact ⟨ret_nat (by rw [HC.out]; rfl), HB2.out⟩
        · have hts := str_some hte
          have HC := Lib.hid (show Hd.pcode ⟨k, 0, n, t⟩ l = 4 from pcode_bad (by simp [Hd.bad, HNN.out, hte]) (by decide))
          have c0 := HAX.out.c0
          have c1 : _ = some (Value.int .u8 (0)) := HAX.out.c1
          have c2 : _ = some (Value.int .i64 (n)) := HAX.out.c2
          have c3 : _ = some (Value.string (ofL t)) := HAX.out.c3
          simp only [Nat.zero_add] at c0 c1 c2 c3
          go_wp2_with fail
          go_ret
          exact ⟨ret_nat (by rw [HC.out]; rfl), HB2.out⟩
      · clear h3
        by_cases hlen : 64 < t.length
        · have hlen2 : 64 < (ofL t).size := by omega
          have HC := Lib.hid (show Hd.pcode ⟨k, 1, n, t⟩ l = 5 from pcode_bad (by simp [Hd.bad, HNN.out, hlen]) (by decide))
          have c0 := HAX.out.c0
          have c1 : _ = some (Value.int .u8 (1)) := HAX.out.c1
          have c2 : _ = some (Value.int .i64 (n)) := HAX.out.c2
          have c3 : _ = some (Value.string (ofL t)) := HAX.out.c3
          simp only [Nat.zero_add] at c0 c1 c2 c3
          go_wp2_with fail
          go_ret
          exact ⟨ret_nat (by rw [HC.out]; rfl), HB2.out⟩
        · have hlen2 : ¬ 64 < (ofL t).size := by omega
          by_cases hn0 : n = 0
          · subst hn0
            cases T with
            | true =>
              have HC := Lib.hid (show Hd.pcode ⟨k, 1, 0, t⟩ l = 9 from (pcode_good (p := ⟨k, 1, 0, t⟩) (by simp [Hd.bad, HNN.out, hlen]) _ HT.out))
              have c0 := HAX.out.c0
              have c1 : _ = some (Value.int .u8 (1)) := HAX.out.c1
              have c2 : _ = some (Value.int .i64 (0)) := HAX.out.c2
              have c3 : _ = some (Value.string (ofL t)) := HAX.out.c3
              simp only [Nat.zero_add] at c0 c1 c2 c3
              go_wp2_with fail
              go_ret
              exact ⟨ret_nat (by rw [HC.out]; rfl), HB2.out⟩
            | false =>
              have HC := Lib.hid (show Hd.pcode ⟨k, 1, 0, t⟩ l = 0 from (pcode_good (p := ⟨k, 1, 0, t⟩) (by simp [Hd.bad, HNN.out, hlen]) _ HT.out))
              have c0 := HAX.out.c0
              have c1 : _ = some (Value.int .u8 (1)) := HAX.out.c1
              have c2 : _ = some (Value.int .i64 (0)) := HAX.out.c2
              have c3 : _ = some (Value.string (ofL t)) := HAX.out.c3
              simp only [Nat.zero_add] at c0 c1 c2 c3
              go_wp2_with fail
              go_ret
              exact ⟨ret_nat (by rw [HC.out]; rfl), HB2.out⟩
          · have hnb : (n != 0) = true := bne_iff_ne.2 hn0
            have HC := Lib.hid (show Hd.pcode ⟨k, 1, n, t⟩ l = 4 from pcode_bad (by simp [Hd.bad, HNN.out, hlen, hn0]) (by decide))
            have c0 := HAX.out.c0
            have c1 : _ = some (Value.int .u8 (1)) := HAX.out.c1
            have c2 : _ = some (Value.int .i64 (n)) := HAX.out.c2
            have c3 : _ = some (Value.string (ofL t)) := HAX.out.c3
            simp only [Nat.zero_add] at c0 c1 c2 c3
            go_wp2_with fail
            go_ret
            exact ⟨ret_nat (by rw [HC.out]; rfl), HB2.out⟩
      · clear h3
        by_cases hn0 : n = 0
        · subst hn0
          by_cases hte : t = []
          · subst hte
            cases T with
            | true =>
              have HC := Lib.hid (show Hd.pcode ⟨k, 2, 0, []⟩ l = 9 from (pcode_good (p := ⟨k, 2, 0, []⟩) (by simp [Hd.bad, HNN.out]) _ HT.out))
              have c0 := HAX.out.c0
              have c1 : _ = some (Value.int .u8 (2)) := HAX.out.c1
              have c2 : _ = some (Value.int .i64 (0)) := HAX.out.c2
              have c3 : _ = some (Value.string (⟨#[]⟩)) := HAX.out.c3
              simp only [Nat.zero_add] at c0 c1 c2 c3
              go_wp2_with fail
              go_ret
              exact ⟨ret_nat (by rw [HC.out]; rfl), HB2.out⟩
            | false =>
              have HC := Lib.hid (show Hd.pcode ⟨k, 2, 0, []⟩ l = 0 from (pcode_good (p := ⟨k, 2, 0, []⟩) (by simp [Hd.bad, HNN.out]) _ HT.out))
              have c0 := HAX.out.c0
              have c1 : _ = some (Value.int .u8 (2)) := HAX.out.c1
              have c2 : _ = some (Value.int .i64 (0)) := HAX.out.c2
              have c3 : _ = some (Value.string (⟨#[]⟩)) := HAX.out.c3
              simp only [Nat.zero_add] at c0 c1 c2 c3
              go_wp2_with fail
              go_ret
              exact ⟨ret_nat (by rw [HC.out]; rfl), HB2.out⟩
          · have hts := str_some hte
            have HC := Lib.hid (show Hd.pcode ⟨k, 2, 0, t⟩ l = 4 from pcode_bad (by simp [Hd.bad, HNN.out, hte]) (by decide))
            have c0 := HAX.out.c0
            have c1 : _ = some (Value.int .u8 (2)) := HAX.out.c1
            have c2 : _ = some (Value.int .i64 (0)) := HAX.out.c2
            have c3 : _ = some (Value.string (ofL t)) := HAX.out.c3
            simp only [Nat.zero_add] at c0 c1 c2 c3
            go_wp2_with fail
            go_ret
            exact ⟨ret_nat (by rw [HC.out]; rfl), HB2.out⟩
        · by_cases hn1 : n = 1
          · subst hn1
            by_cases hte : t = []
            · subst hte
              cases T with
              | true =>
                have HC := Lib.hid (show Hd.pcode ⟨k, 2, 1, []⟩ l = 9 from (pcode_good (p := ⟨k, 2, 1, []⟩) (by simp [Hd.bad, HNN.out]) _ HT.out))
                have c0 := HAX.out.c0
                have c1 : _ = some (Value.int .u8 (2)) := HAX.out.c1
                have c2 : _ = some (Value.int .i64 (1)) := HAX.out.c2
                have c3 : _ = some (Value.string (⟨#[]⟩)) := HAX.out.c3
                simp only [Nat.zero_add] at c0 c1 c2 c3
                go_wp2_with fail
                go_ret
                exact ⟨ret_nat (by rw [HC.out]; rfl), HB2.out⟩
              | false =>
                have HC := Lib.hid (show Hd.pcode ⟨k, 2, 1, []⟩ l = 0 from (pcode_good (p := ⟨k, 2, 1, []⟩) (by simp [Hd.bad, HNN.out]) _ HT.out))
                have c0 := HAX.out.c0
                have c1 : _ = some (Value.int .u8 (2)) := HAX.out.c1
                have c2 : _ = some (Value.int .i64 (1)) := HAX.out.c2
                have c3 : _ = some (Value.string (⟨#[]⟩)) := HAX.out.c3
                simp only [Nat.zero_add] at c0 c1 c2 c3
                go_wp2_with fail
                go_ret
                exact ⟨ret_nat (by rw [HC.out]; rfl), HB2.out⟩
            · have hts := str_some hte
              have HC := Lib.hid (show Hd.pcode ⟨k, 2, 1, t⟩ l = 4 from pcode_bad (by simp [Hd.bad, HNN.out, hte]) (by decide))
              have c0 := HAX.out.c0
              have c1 : _ = some (Value.int .u8 (2)) := HAX.out.c1
              have c2 : _ = some (Value.int .i64 (1)) := HAX.out.c2
              have c3 : _ = some (Value.string (ofL t)) := HAX.out.c3
              simp only [Nat.zero_add] at c0 c1 c2 c3
              go_wp2_with fail
              go_ret
              exact ⟨ret_nat (by rw [HC.out]; rfl), HB2.out⟩
          · have hnb : (n == 0) = false := beq_eq_false_iff_ne.2 hn0
            have hnb1 : (n == 1) = false := beq_eq_false_iff_ne.2 hn1
            have hnc : (n != 0) = true := bne_iff_ne.2 hn0
            have hnc1 : (n != 1) = true := bne_iff_ne.2 hn1
            by_cases hneg : n < 0
            · have hle : ¬ 1 < n := by omega
              have HC := Lib.hid (show Hd.pcode ⟨k, 2, n, t⟩ l = 7 from pcode_bad (by simp [Hd.bad, HNN.out, hn0, hn1]) (by decide))
              have c0 := HAX.out.c0
              have c1 : _ = some (Value.int .u8 (2)) := HAX.out.c1
              have c2 : _ = some (Value.int .i64 (n)) := HAX.out.c2
              have c3 : _ = some (Value.string (ofL t)) := HAX.out.c3
              simp only [Nat.zero_add] at c0 c1 c2 c3
              go_wp2_with fail
              go_ret
              exact ⟨ret_nat (by rw [HC.out]; rfl), HB2.out⟩
            · have hgt : 1 < n := by omega
              have HC := Lib.hid (show Hd.pcode ⟨k, 2, n, t⟩ l = 7 from pcode_bad (by simp [Hd.bad, HNN.out, hn0, hn1]) (by decide))
              have c0 := HAX.out.c0
              have c1 : _ = some (Value.int .u8 (2)) := HAX.out.c1
              have c2 : _ = some (Value.int .i64 (n)) := HAX.out.c2
              have c3 : _ = some (Value.string (ofL t)) := HAX.out.c3
              simp only [Nat.zero_add] at c0 c1 c2 c3
              go_wp2_with fail
              go_ret
              exact ⟨ret_nat (by rw [HC.out]; rfl), HB2.out⟩
  · have HC := Lib.hid (show Hd.pcode ⟨k, kd, n, t⟩ l = Wrd.nameCode k from pcode_bad (bad_name hnm) hnm)
    have hne := code_ne hnm
    clear hnm
    go_enter Tryz.func98, Tryz.ntmps98
    go_wp2_with fail
    refine (HNM.out _).mono ?_
    rintro e w' ⟨rfl, rfl⟩
    go_wp2_with fail
    go_ret
    exact ⟨ret_nat (by rw [HC.out]), HB0.out⟩
end Go.Proofs.YtecjngodfciokaaGreatDoor
end
