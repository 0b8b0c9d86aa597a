/-
  WHAT IS WRONG WITH A PAIR behind others: walked, the program's and the document's. WHAT IS WRONG WITH A HEAD: walked, the program's and the document's; what is gone through.
-/
import Derived.Test.YtaikigponkjkgaaGreatDoorDs07
import Derived.Deep.RegionWith
section
namespace Go.Proofs.YtaikigponkjkgaaGreatDoor
open Go.ChangeShapes Go.WideShapes Go.ChangeAt Go.RowKit
theorem str_some {t : List UInt8} (h : t ≠ []) : (ofL t).toList.isEmpty = false := str_ne (fun e => h (List.length_eq_zero_iff.1 e))
theorem bad_name {k : List UInt8} {kd : Nat} {n : Int} {t : List UInt8} (h : Wrd.nameCode k ≠ 0) : Hd.bad ⟨k, kd, n, t⟩ = Wrd.nameCode k := by unfold Hd.bad; rw [if_pos h]
set_option maxRecDepth 100000 in
set_option maxHeartbeats 16000000 in
theorem hcheck_any (k : List UInt8) (kd : Nat) (n : Int) (t : List UInt8) (l : List Hd.Pr) (A : Option Addr) (c : Nat) (w : World) (hk : k.length ≤ 100000) (ht : t.length ≤ 100000) (hl : l.length ≤ 100000) (hp : Prs w A l) :
    Calls Tryz.prog 120 #[.agg #[.string (ofL k), .int .u8 (kd : Int), .int .i64 n, .string (ofL t)], .slice A l.length c] w fun e w' => e = .returned (.int .i64 (Hd.pcode ⟨k, kd, n, t⟩ l : Int)) ∧ Below w.heap.size w w' := by
  have HP := Lib.hid hp
  have HNM := Lib.hid (fun W => name_any k W hk)
  have hsz : (ofL t).size = t.length := ofL_size t
  clear hp
  have HB0 := Lib.hid (show Below w.heap.size w (w.alloc (.cells #[.string (ofL k), .int .u8 (kd : Int), .int .i64 n, .string (ofL t)] 142)) from (Below.refl _ _).alloc (Nat.le_refl _) _)
  have HA0 := Lib.hid (PrAt.new ⟨k, kd, n, t⟩ w)
  by_cases hnm : Wrd.nameCode k = 0
  · rw [hnm] at HNM
    have HF := Lib.hid (fun W h => hfind_any l A c k W hl h)
    have HP0 := Lib.hid (HP.out.on HB0.out)
    obtain ⟨T, hT⟩ : ∃ T, Hd.there l k = T := ⟨_, rfl⟩
    obtain ⟨f0, hf0⟩ : ∃ f0, first l k = f0 := ⟨_, rfl⟩
    have hfv : findV l k = .tuple #[prV f0, .bool T] := by unfold findV; rw [hf0, hT]
    rw [hfv] at HF
    clear hf0 hfv
    obtain ⟨f1, f2, f3, f4⟩ := f0
    simp only [prV] at HF
    have HT := Lib.hid hT
    have HNN := Lib.hid hnm
    clear hT hnm
    go_enter Tryz.func120, Tryz.ntmps120
    go_wp2_with fail
    refine (HNM.out _).mono ?_
    rintro e w' ⟨rfl, rfl⟩
    go_wp2_with fail
    refine (HF.out _ HP0.out).mono ?_
    rintro e w1 ⟨rfl, hB⟩
    have HB1 := Lib.hid (bthen HB0.out hB (Nat.le_refl _))
    have hlt : w.heap.size < (w.alloc (.cells #[.string (ofL k), .int .u8 (kd : Int), .int .i64 n, .string (ofL t)] 142)).heap.size := by simp
    have HA1 := Lib.hid (HA0.out.below hB hlt)
    have hlt1 : w.heap.size < w1.heap.size := Nat.lt_of_lt_of_le hlt hB.size
    clear hB hlt
    have HAX := Lib.hid (HA1.out.below ((Below.refl w1.heap.size w1).alloc (Nat.le_refl _) (.cells #[.string (ofL f1), .int .u8 (f2 : Int), .int .i64 f3, .string (ofL f4)] 142)) hlt1)
    have HB2 := Lib.hid (HB1.out.alloc HB1.out.size (.cells #[.string (ofL f1), .int .u8 (f2 : Int), .int .i64 f3, .string (ofL f4)] 142))
    clear HB0 HA0 HP0 HNM HF HP HA1
    by_cases h3 : 2 < kd
    · have hx : decide ((3 : Int) ≤ (kd : Int)) = true := decide_eq_true (by omega)
      have hx2 : decide ((2 : Int) < (kd : Int)) = true := decide_eq_true (by omega)
      have HC := Lib.hid (show Hd.pcode ⟨k, kd, n, t⟩ l = 8 from pcode_bad (by simp [Hd.bad, HNN.out, h3]) (by decide))
      have c0 := HAX.out.c0
      have c1 : _ = some (Value.int .u8 ((kd : Int))) := HAX.out.c1
      have c2 : _ = some (Value.int .i64 (n)) := HAX.out.c2
      have c3 : _ = some (Value.string (ofL t)) := HAX.out.c3
      simp only [Nat.zero_add] at c0 c1 c2 c3
      go_wp2_with fail
      go_ret
      exact ⟨ret_nat (by rw [HC.out]; rfl), HB2.out⟩
    · obtain rfl | rfl | rfl : kd = 0 ∨ kd = 1 ∨ kd = 2 := by omega
      · clear h3
        by_cases hte : t = []
        · subst hte
          cases T with
          | true =>
            have HC := Lib.hid (show Hd.pcode ⟨k, 0, n, []⟩ l = 9 from (pcode_good (p := ⟨k, 0, n, []⟩) (by simp [Hd.bad, HNN.out]) _ HT.out))
            have c0 := HAX.out.c0
            have c1 : _ = some (Value.int .u8 (0)) := HAX.out.c1
            have c2 : _ = some (Value.int .i64 (n)) := HAX.out.c2
            have c3 : _ = some (Value.string (⟨#[]⟩)) := HAX.out.c3
            simp only [Nat.zero_add] at c0 c1 c2 c3
            go_wp2_with fail
            go_ret
            exact ⟨ret_nat (by rw [HC.out]; rfl), HB2.out⟩
          | false =>
            have HC := Lib.hid (show Hd.pcode ⟨k, 0, n, []⟩ l = 0 from (pcode_good (p := ⟨k, 0, n, []⟩) (by simp [Hd.bad, HNN.out]) _ HT.out))
            have c0 := HAX.out.c0
            have c1 : _ = some (Value.int .u8 (0)) := HAX.out.c1
            have c2 : _ = some (Value.int .i64 (n)) := HAX.out.c2
            have c3 : _ = some (Value.string (⟨#[]⟩)) := HAX.out.c3
            simp only [Nat.zero_add] at c0 c1 c2 c3
            go_wp2_with fail
            go_ret
            exact ⟨ret_nat (by rw [HC.out]; rfl), HB2.out⟩
        · have hts := str_some hte
          have HC := Lib.hid (show Hd.pcode ⟨k, 0, n, t⟩ l = 4 from pcode_bad (by simp [Hd.bad, HNN.out, hte]) (by decide))
          have c0 := HAX.out.c0
          have c1 : _ = some (Value.int .u8 (0)) := HAX.out.c1
          have c2 : _ = some (Value.int .i64 (n)) := HAX.out.c2
          have c3 : _ = some (Value.string (ofL t)) := HAX.out.c3
          simp only [Nat.zero_add] at c0 c1 c2 c3
          go_wp2_with fail
          go_ret
          exact ⟨ret_nat (by rw [HC.out]; rfl), HB2.out⟩
      · clear h3
        by_cases hlen : 64 < t.length
        · have hlen2 : 64 < (ofL t).size := by omega
          have HC := Lib.hid (show Hd.pcode ⟨k, 1, n, t⟩ l = 5 from pcode_bad (by simp [Hd.bad, HNN.out, hlen]) (by decide))
          have c0 := HAX.out.c0
          have c1 : _ = some (Value.int .u8 (1)) := HAX.out.c1
          have c2 : _ = some (Value.int .i64 (n)) := HAX.out.c2
          have c3 : _ = some (Value.string (ofL t)) := HAX.out.c3
          simp only [Nat.zero_add] at c0 c1 c2 c3
          go_wp2_with fail
          go_ret
          exact ⟨ret_nat (by rw [HC.out]; rfl), HB2.out⟩
        · have hlen2 : ¬ 64 < (ofL t).size := by omega
          by_cases hn0 : n = 0
          · subst hn0
            cases T with
            | true =>
              have HC := Lib.hid (show Hd.pcode ⟨k, 1, 0, t⟩ l = 9 from (pcode_good (p := ⟨k, 1, 0, t⟩) (by simp [Hd.bad, HNN.out, hlen]) _ HT.out))
              have c0 := HAX.out.c0
              have c1 : _ = some (Value.int .u8 (1)) := HAX.out.c1
              have c2 : _ = some (Value.int .i64 (0)) := HAX.out.c2
              have c3 : _ = some (Value.string (ofL t)) := HAX.out.c3
              simp only [Nat.zero_add] at c0 c1 c2 c3
              go_wp2_with fail
              go_ret
              exact ⟨ret_nat (by rw [HC.out]; rfl), HB2.out⟩
            | false =>
              have HC := Lib.hid (show Hd.pcode ⟨k, 1, 0, t⟩ l = 0 from (pcode_good (p := ⟨k, 1, 0, t⟩) (by simp [Hd.bad, HNN.out, hlen]) _ HT.out))
              have c0 := HAX.out.c0
              have c1 : _ = some (Value.int .u8 (1)) := HAX.out.c1
              have c2 : _ = some (Value.int .i64 (0)) := HAX.out.c2
              have c3 : _ = some (Value.string (ofL t)) := HAX.out.c3
              simp only [Nat.zero_add] at c0 c1 c2 c3
              go_wp2_with fail
              go_ret
              exact ⟨ret_nat (by rw [HC.out]; rfl), HB2.out⟩
          · have hnb : (n != 0) = true := bne_iff_ne.2 hn0
            have HC := Lib.hid (show Hd.pcode ⟨k, 1, n, t⟩ l = 4 from pcode_bad (by simp [Hd.bad, HNN.out, hlen, hn0]) (by decide))
            have c0 := HAX.out.c0
            have c1 : _ = some (Value.int .u8 (1)) := HAX.out.c1
            have c2 : _ = some (Value.int .i64 (n)) := HAX.out.c2
            have c3 : _ = some (Value.string (ofL t)) := HAX.out.c3
            simp only [Nat.zero_add] at c0 c1 c2 c3
            go_wp2_with fail
            go_ret
            exact ⟨ret_nat (by rw [HC.out]; rfl), HB2.out⟩
      · clear h3
        by_cases hn0 : n = 0
        · subst hn0
          by_cases hte : t = []
          · subst hte
            cases T with
            | true =>
              have HC := Lib.hid (show Hd.pcode ⟨k, 2, 0, []⟩ l = 9 from (pcode_good (p := ⟨k, 2, 0, []⟩) (by simp [Hd.bad, HNN.out]) _ HT.out))
              have c0 := HAX.out.c0
              have c1 : _ = some (Value.int .u8 (2)) := HAX.out.c1
              have c2 : _ = some (Value.int .i64 (0)) := HAX.out.c2
              have c3 : _ = some (Value.string (⟨#[]⟩)) := HAX.out.c3
              simp only [Nat.zero_add] at c0 c1 c2 c3
              go_wp2_with fail
              go_ret
              exact ⟨ret_nat (by rw [HC.out]; rfl), HB2.out⟩
            | false =>
              have HC := Lib.hid (show Hd.pcode ⟨k, 2, 0, []⟩ l = 0 from (pcode_good (p := ⟨k, 2, 0, []⟩) (by simp [Hd.bad, HNN.out]) _ HT.out))
              have c0 := HAX.out.c0
              have c1 : _ = some (Value.int .u8 (2)) := HAX.out.c1
              have c2 : _ = some (Value.int .i64 (0)) := HAX.out.c2
              have c3 : _ = some (Value.string (⟨#[]⟩)) := HAX.out.c3
              simp only [Nat.zero_add] at c0 c1 c2 c3
              go_wp2_with fail
              go_ret
              exact ⟨ret_nat (by rw [HC.out]; rfl), HB2.out⟩
          · have hts := str_some hte
            have HC := Lib.hid (show Hd.pcode ⟨k, 2, 0, t⟩ l = 4 from pcode_bad (by simp [Hd.bad, HNN.out, hte]) (by decide))
            have c0 := HAX.out.c0
            have c1 : _ = some (Value.int .u8 (2)) := HAX.out.c1
            have c2 : _ = some (Value.int .i64 (0)) := HAX.out.c2
            have c3 : _ = some (Value.string (ofL t)) := HAX.out.c3
            simp only [Nat.zero_add] at c0 c1 c2 c3
            go_wp2_with fail
            go_ret
            exact ⟨ret_nat (by rw [HC.out]; rfl), HB2.out⟩
        · by_cases hn1 : n = 1
          · subst hn1
            by_cases hte : t = []
            · subst hte
              cases T with
              | true =>
                have HC := Lib.hid (show Hd.pcode ⟨k, 2, 1, []⟩ l = 9 from (pcode_good (p := ⟨k, 2, 1, []⟩) (by simp [Hd.bad, HNN.out]) _ HT.out))
                have c0 := HAX.out.c0
                have c1 : _ = some (Value.int .u8 (2)) := HAX.out.c1
                have c2 : _ = some (Value.int .i64 (1)) := HAX.out.c2
                have c3 : _ = some (Value.string (⟨#[]⟩)) := HAX.out.c3
                simp only [Nat.zero_add] at c0 c1 c2 c3
                go_wp2_with fail
                go_ret
                exact ⟨ret_nat (by rw [HC.out]; rfl), HB2.out⟩
              | false =>
                have HC := Lib.hid (show Hd.pcode ⟨k, 2, 1, []⟩ l = 0 from (pcode_good (p := ⟨k, 2, 1, []⟩) (by simp [Hd.bad, HNN.out]) _ HT.out))
                have c0 := HAX.out.c0
                have c1 : _ = some (Value.int .u8 (2)) := HAX.out.c1
                have c2 : _ = some (Value.int .i64 (1)) := HAX.out.c2
                have c3 : _ = some (Value.string (⟨#[]⟩)) := HAX.out.c3
                simp only [Nat.zero_add] at c0 c1 c2 c3
                go_wp2_with fail
                go_ret
                exact ⟨ret_nat (by rw [HC.out]; rfl), HB2.out⟩
            · have hts := str_some hte
              have HC := Lib.hid (show Hd.pcode ⟨k, 2, 1, t⟩ l = 4 from pcode_bad (by simp [Hd.bad, HNN.out, hte]) (by decide))
              have c0 := HAX.out.c0
              have c1 : _ = some (Value.int .u8 (2)) := HAX.out.c1
              have c2 : _ = some (Value.int .i64 (1)) := HAX.out.c2
              have c3 : _ = some (Value.string (ofL t)) := HAX.out.c3
              simp only [Nat.zero_add] at c0 c1 c2 c3
              go_wp2_with fail
              go_ret
              exact ⟨ret_nat (by rw [HC.out]; rfl), HB2.out⟩
          · have hnb : (n == 0) = false := beq_eq_false_iff_ne.2 hn0
            have hnb1 : (n == 1) = false := beq_eq_false_iff_ne.2 hn1
            have hnc : (n != 0) = true := bne_iff_ne.2 hn0
            have hnc1 : (n != 1) = true := bne_iff_ne.2 hn1
            by_cases hneg : n < 0
            · have hle : ¬ 1 < n := by omega
              have HC := Lib.hid (show Hd.pcode ⟨k, 2, n, t⟩ l = 7 from pcode_bad (by simp [Hd.bad, HNN.out, hn0, hn1]) (by decide))
              have c0 := HAX.out.c0
              have c1 : _ = some (Value.int .u8 (2)) := HAX.out.c1
              have c2 : _ = some (Value.int .i64 (n)) := HAX.out.c2
              have c3 : _ = some (Value.string (ofL t)) := HAX.out.c3
              simp only [Nat.zero_add] at c0 c1 c2 c3
              go_wp2_with fail
              go_ret
              exact ⟨ret_nat (by rw [HC.out]; rfl), HB2.out⟩
            · have hgt : 1 < n := by omega
              have HC := Lib.hid (show Hd.pcode ⟨k, 2, n, t⟩ l = 7 from pcode_bad (by simp [Hd.bad, HNN.out, hn0, hn1]) (by decide))
              have c0 := HAX.out.c0
              have c1 : _ = some (Value.int .u8 (2)) := HAX.out.c1
              have c2 : _ = some (Value.int .i64 (n)) := HAX.out.c2
              have c3 : _ = some (Value.string (ofL t)) := HAX.out.c3
              simp only [Nat.zero_add] at c0 c1 c2 c3
              go_wp2_with fail
              go_ret
              exact ⟨ret_nat (by rw [HC.out]; rfl), HB2.out⟩
  · have HC := Lib.hid (show Hd.pcode ⟨k, kd, n, t⟩ l = Wrd.nameCode k from pcode_bad (bad_name hnm) hnm)
    have hne := code_ne hnm
    clear hnm
    go_enter Tryz.func120, Tryz.ntmps120
    go_wp2_with fail
    refine (HNM.out _).mono ?_
    rintro e w' ⟨rfl, rfl⟩
    go_wp2_with fail
    go_ret
    exact ⟨ret_nat (by rw [HC.out]), HB0.out⟩
end Go.Proofs.YtaikigponkjkgaaGreatDoor
end
section
namespace Go.Proofs.YtaikigponkjkgaaGreatDoor
open Go.ChangeShapes Go.WideShapes Go.ChangeAt Go.RowKit
/-- texts of a length that can be walked -/
def Lite (l : List Hd.Pr) : Prop := ∀ i, i < l.length → (Hd.pr l i).key.length ≤ 100000 ∧ (Hd.pr l i).txt.length ≤ 100000
theorem hcode_many {l : List Hd.Pr} (h : 8 < l.length) : Hd.hcode l = 6 := by unfold Hd.hcode; rw [if_pos h]
theorem hcode_all {l : List Hd.Pr} (h : ¬ 8 < l.length) (g : ∀ i, i < l.length → Hd.pcode (Hd.pr l i) (l.take i) = 0) : Hd.hcode l = 0 := by unfold Hd.hcode; rw [if_neg h]; exact Hd.scan_zero g
theorem hcode_at {l : List Hd.Pr} {k : Nat} (h : ¬ 8 < l.length) (hk : k < l.length) (g : ∀ i, i < k → Hd.pcode (Hd.pr l i) (l.take i) = 0) (hb : Hd.pcode (Hd.pr l k) (l.take k) ≠ 0) : Hd.hcode l = Hd.pcode (Hd.pr l k) (l.take k) := by
  unfold Hd.hcode
  rw [if_neg h]
  exact Hd.scan_at (f := fun i => Hd.pcode (Hd.pr l i) (l.take i)) hk g hb
theorem hcheck_any_at (l : List Hd.Pr) (b off c k : Nat) (x : Hd.Pr) (hx : Hd.pr l k = x) (hk : k < l.length) (hl : l.length ≤ 8) (hL : Lite l) (W : World) (h : Prs W (some ⟨b, off, none⟩) l) :
    Calls Tryz.prog 120 #[.agg #[.string (ofL x.key), .int .u8 (x.kind : Int), .int .i64 x.num, .string (ofL x.txt)], .slice (some ⟨b, off, none⟩) k c] W fun e w' => e = .returned (.int .i64 (Hd.pcode (Hd.pr l k) (l.take k) : Int)) ∧ Below W.heap.size W w' := by
  have := hcheck_any x.key x.kind x.num x.txt (l.take k) (some ⟨b, off, none⟩) c W (by rw [← hx]; exact (hL k hk).1) (by rw [← hx]; exact (hL k hk).2) (by rw [List.length_take]; omega) (h.take k)
  rw [List.length_take, Nat.min_eq_left (by omega)] at this
  rw [hx]
  exact this
set_option maxRecDepth 100000 in
set_option maxHeartbeats 4000000 in
theorem hCheck_any (l : List Hd.Pr) (A : Option Addr) (c : Nat) (w : World) (hl : l.length ≤ 100000) (hc : l.length ≤ c) (hL : Lite l) (hp : Prs w A l) :
    Calls Tryz.prog 102 #[.slice A l.length c] w fun e w' => e = .returned (.int .i64 (Hd.hcode l : Int)) ∧ Below w.heap.size w w' := by
  have HP := Lib.hid hp
  have HLT := Lib.hid hL
  clear hp hL
  obtain ⟨n, hn⟩ : ∃ n, n = l.length := ⟨_, rfl⟩
  by_cases h8 : 8 < l.length
  · have HC := Lib.hid (hcode_many h8)
    go_enter Tryz.func102, Tryz.ntmps102
    go_wp2_with fail
    go_ret
    exact ⟨ret_nat (by rw [HC.out]; rfl), Below.refl _ _⟩
  · have HALL := Lib.hid (fun g => hcode_all (l := l) h8 g)
    have HAT := Lib.hid (fun k hk g hb => hcode_at (l := l) (k := k) h8 hk g hb)
    have HN := Lib.hid hn
    rw [← hn]
    rw [← hn] at h8 hl hc
    clear hn
    go_enter Tryz.func102, Tryz.ntmps102
    go_wp2_with fail
    go_loopg [11] n (fun g i wr => ∃ k : Nat, k + g = n ∧ i = .int .i64 (k : Int) ∧ (∀ j, j < k → Hd.pcode (Hd.pr l j) (l.take j) = 0) ∧ Below w.heap.size w wr)
    case atStart => exact ⟨0, by omega, rfl, fun j hj => absurd hj (by omega), Below.refl _ _⟩
    case round =>
      obtain ⟨k, hk, rfl, hno, hBl⟩ := hrel
      have HBL := Lib.hid hBl
      have HNO := Lib.hid hno
      clear hBl hno
      by_cases hlt : k < n
      · have hkl : k < l.length := by have := HN.out; omega
        obtain ⟨b, off, rfl, hbl, hat⟩ := (HP.out.on HBL.out).at_ k hkl
        obtain ⟨x, hx⟩ : ∃ x, Hd.pr l k = x := ⟨_, rfl⟩
        have HCALL := Lib.hid (fun W h => hcheck_any_at l b off c k x hx hkl (by have := HN.out; omega) HLT.out W h)
        have HPR := Lib.hid (HP.out.on HBL.out)
        have HBX := Lib.hid (PrAt.new x wr)
        have HQ := Lib.hid (fun hb => HAT.out k hkl HNO.out hb)
        have HNX : Hid (Hd.pcode (Hd.pr l k) (l.take k) = 0 → ∀ j, j < k + 1 → Hd.pcode (Hd.pr l j) (l.take j) = 0) := fun h j hj => by
          by_cases e : j = k
          · rw [e]; exact h
          · exact HNO.out j (by omega)
        rw [hx] at hat
        generalize Hd.pcode (Hd.pr l k) (l.take k) = D at *
        clear hx
        obtain ⟨x1, x2, x3, x4⟩ := x
        obtain ⟨c0, c1, c2, c3⟩ := hat
        simp only at HCALL c0 c1 c2 c3
        try simp only at HBX
        have hkc : k ≤ c := by omega
        clear hkl
        go_wp2_with fail
        refine region_tail 4 (by kernel_rfl) (by kernel_rfl) ?_
        simp only [List.take_succ_cons, List.take_zero, List.drop_succ_cons, List.drop_zero]
        obtain ⟨y0, y1, y2, y3⟩ := HBX.out
        repeat still_step
        refine wpStill_nil ?_
        go_wp2_with fail
        have HS0 := Lib.hid (((Below.refl wr.heap.size wr).alloc (Nat.le_refl _) (.cells #[.string (ofL x1), .int .u8 (x2 : Int), .int .i64 x3, .string (ofL x4)] 142)).drew)
        with_reducible refine (HCALL.out _ (HPR.out.on HS0.out)).mono ?_
        rintro e w1 ⟨rfl, hB⟩
        have HB1 := Lib.hid (bthen (bthen HBL.out HS0.out (Nat.le_refl _)) hB (Nat.le_refl _))
        clear hB
        by_cases hD : D = 0
        · have hne2 := code_eq hD
          have HNX := Lib.hid (HNX.out hD)
          clear hD
          go_wp2_with fail
          go_roundg (gk - 1)
          case rel => exact ⟨k + 1, by omega, by go_num, HNX.out, HB1.out⟩
          case measure => omega
        · have hne2 := code_ne hD
          have HE := Lib.hid (HQ.out hD)
          clear hD
          go_wp2_with fail
          go_ret
          exact ⟨ret_nat (by rw [HE.out]), HB1.out⟩
      · have HE := Lib.hid (HALL.out (fun i hi => HNO.out i (by have := HN.out; omega)))
        go_wp2_with fail
        go_ret
        exact ⟨ret_nat (by rw [HE.out]; rfl), HBL.out⟩
/-- is a head gone through? -/
def lightB (l : List Hd.Pr) : Bool := decide (l.length ≤ 12) && l.all fun p => decide (p.key.length ≤ 40) && decide (p.txt.length ≤ 100)
theorem light_lite {l : List Hd.Pr} (h : lightB l = true) : l.length ≤ 12 ∧ Lite l ∧ ∀ p ∈ l, p.key.length ≤ 40 ∧ p.txt.length ≤ 100 := by
  unfold lightB at h
  rw [Bool.and_eq_true, decide_eq_true_eq, List.all_eq_true] at h
  have h2 : ∀ p ∈ l, p.key.length ≤ 40 ∧ p.txt.length ≤ 100 := fun p hp => by
    have := h.2 p hp
    rw [Bool.and_eq_true, decide_eq_true_eq, decide_eq_true_eq] at this
    exact this
  refine ⟨h.1, fun i hi => ?_, h2⟩
  rw [Hd.pr_at hi]
  have := h2 _ (List.getElem_mem hi)
  omega
theorem light_no {l : List Hd.Pr} {k : Nat} (hk : k < l.length) (h : (decide (40 < (Hd.pr l k).key.length) || decide (100 < (Hd.pr l k).txt.length)) = true) : lightB l = false := by
  unfold lightB
  rw [Bool.and_eq_false_iff]
  right
  rw [List.all_eq_false]
  refine ⟨l[k], List.getElem_mem hk, ?_⟩
  rw [Hd.pr_at hk] at h
  simp at h ⊢
  omega
theorem light_yes {l : List Hd.Pr} (h : l.length ≤ 12) (g : ∀ k, k < l.length → (Hd.pr l k).key.length ≤ 40 ∧ (Hd.pr l k).txt.length ≤ 100) : lightB l = true := by
  unfold lightB
  rw [Bool.and_eq_true, decide_eq_true_eq, List.all_eq_true]
  refine ⟨h, fun p hp => ?_⟩
  obtain ⟨i, hi, rfl⟩ := List.getElem_of_mem hp
  have := g i hi
  rw [Hd.pr_at hi] at this
  simp [this]
theorem light_many {l : List Hd.Pr} (h : 12 < l.length) : lightB l = false := by
  unfold lightB
  rw [decide_eq_false (by omega), Bool.false_and]
set_option maxRecDepth 100000 in
set_option maxHeartbeats 4000000 in
theorem light9_any (l : List Hd.Pr) (A : Option Addr) (c : Nat) (w : World) (hl : l.length ≤ 9223372036854775807) (hp : Prs w A l) :
    Calls Tryz.prog 40 #[.slice A l.length c] w fun e w' => e = .returned (.bool (lightB l)) ∧ Below w.heap.size w w' := by
  have HP := Lib.hid hp
  clear hp
  obtain ⟨n, hn⟩ : ∃ n, n = l.length := ⟨_, rfl⟩
  by_cases h12 : 12 < l.length
  · have HC := Lib.hid (light_many h12)
    go_enter Tryz.func40, Tryz.ntmps40
    go_wp2_with fail
    go_ret
    exact ⟨ret_bool HC.out.symm, Below.refl _ _⟩
  · have HY := Lib.hid (fun g => light_yes (l := l) (by omega) g)
    have HNO := Lib.hid (fun k hk h => light_no (l := l) (k := k) hk h)
    generalize lightB l = M at *
    have HN := Lib.hid hn
    rw [← hn]
    rw [← hn] at h12 hl
    clear hn
    go_enter Tryz.func40, Tryz.ntmps40
    go_wp2_with fail
    go_loopg [10] n (fun g i wr => ∃ k : Nat, k + g = n ∧ i = .int .i64 (k : Int) ∧ (∀ j, j < k → (Hd.pr l j).key.length ≤ 40 ∧ (Hd.pr l j).txt.length ≤ 100) ∧ Below w.heap.size w wr)
    case atStart => exact ⟨0, by omega, rfl, fun j hj => absurd hj (by omega), Below.refl _ _⟩
    case round =>
      obtain ⟨k, hk, rfl, hno, hBl⟩ := hrel
      have HBL := Lib.hid hBl
      have HALL := Lib.hid hno
      clear hBl hno
      by_cases hlt : k < n
      · have hkl : k < l.length := by have := HN.out; omega
        obtain ⟨b, off, rfl, hbl, hat⟩ := (HP.out.on HBL.out).at_ k hkl
        obtain ⟨x, hx⟩ : ∃ x, Hd.pr l k = x := ⟨_, rfl⟩
        have HX := Lib.hid hx
        have HKL := Lib.hid hkl
        rw [hx] at hat
        clear hx hkl
        obtain ⟨x1, x2, x3, x4⟩ := x
        obtain ⟨c0, c1, c2, c3⟩ := hat
        simp only at c0 c1 c2 c3
        have z1 : (ofL x1).size = x1.length := ofL_size x1
        have z4 : (ofL x4).size = x4.length := ofL_size x4
        by_cases h1 : 40 < (ofL x1).size
        · have HM := Lib.hid (HNO.out k HKL.out (by rw [HX.out]; simp; omega))
          go_wp2_with fail
          go_ret
          exact ⟨ret_bool HM.out.symm, HBL.out.alloc HBL.out.size _⟩
        · by_cases h2 : 100 < (ofL x4).size
          · have HM := Lib.hid (HNO.out k HKL.out (by rw [HX.out]; simp; omega))
            go_wp2_with fail
            go_ret
            exact ⟨ret_bool HM.out.symm, HBL.out.alloc HBL.out.size _⟩
          · have HNX := Lib.hid (show ∀ j, j < k + 1 → (Hd.pr l j).key.length ≤ 40 ∧ (Hd.pr l j).txt.length ≤ 100 from fun j hj => by
              by_cases e : j = k
              · rw [e, HX.out]; simp only; omega
              · exact HALL.out j (by omega))
            go_wp2_with fail
            go_roundg (gk - 1)
            case rel => exact ⟨k + 1, by omega, by go_num, HNX.out, HBL.out.alloc HBL.out.size _⟩
            case measure => omega
      · have HM := Lib.hid (HY.out (fun i hi => HALL.out i (by have := HN.out; omega)))
        go_wp2_with fail
        go_ret
        exact ⟨ret_bool HM.out.symm, HBL.out⟩
end Go.Proofs.YtaikigponkjkgaaGreatDoor
end
