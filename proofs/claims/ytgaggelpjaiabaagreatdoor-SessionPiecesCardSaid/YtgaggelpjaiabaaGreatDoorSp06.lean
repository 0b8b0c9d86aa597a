/-
  WHAT IS WRONG WITH A PAIR behind others: walked, the program's and the document's. WHAT IS WRONG WITH A HEAD: walked, the program's and the document's; what is gone through. THE WORDS BETWEEN POINTS, walked: the program's and the document's. WORDS IN MEMORY, as they are read.
-/
import Derived.Test.YtgaggelpjaiabaaGreatDoorSp05
import Derived.Deep.RegionWith
import Derived.Test.YtgaggelpjaiabaaGreatDoorShelfWords
import Derived.Lib.SplitLaws
section
namespace Go.Proofs.YtgaggelpjaiabaaGreatDoor
open Go.ChangeShapes Go.WideShapes Go.ChangeAt Go.RowKit
theorem str_some {t : List UInt8} (h : t ≠ []) : (ofL t).toList.isEmpty = false := str_ne (fun e => h (List.length_eq_zero_iff.1 e))
theorem bad_name {k : List UInt8} {kd : Nat} {n : Int} {t : List UInt8} (h : Wrd.nameCode k ≠ 0) : Hd.bad ⟨k, kd, n, t⟩ = Wrd.nameCode k := by unfold Hd.bad; rw [if_pos h]
set_option maxRecDepth 100000 in
set_option maxHeartbeats 16000000 in
theorem hcheck_any (k : List UInt8) (kd : Nat) (n : Int) (t : List UInt8) (l : List Hd.Pr) (A : Option Addr) (c : Nat) (w : World) (hk : k.length ≤ 100000) (ht : t.length ≤ 100000) (hl : l.length ≤ 100000) (hp : Prs w A l) :
    Calls Tryz.prog 128 #[.agg #[.string (ofL k), .int .u8 (kd : Int), .int .i64 n, .string (ofL t)], .slice A l.length c] w fun e w' => e = .returned (.int .i64 (Hd.pcode ⟨k, kd, n, t⟩ l : Int)) ∧ Below w.heap.size w w' := by
  have HP := Lib.hid hp
  have HNM := Lib.hid (fun W => name_any k W hk)
  have hsz : (ofL t).size = t.length := ofL_size t
  clear hp
  have HB0 := Lib.hid (show Below w.heap.size w (w.alloc (.cells #[.string (ofL k), .int .u8 (kd : Int), .int .i64 n, .string (ofL t)] 94)) from (Below.refl _ _).alloc (Nat.le_refl _) _)
  have HA0 := Lib.hid (PrAt.new ⟨k, kd, n, t⟩ w)
  by_cases hnm : Wrd.nameCode k = 0
  · rw [hnm] at HNM
    have HF := Lib.hid (fun W h => hfind_any l A c k W hl h)
    have HP0 := Lib.hid (HP.out.on HB0.out)
    obtain ⟨T, hT⟩ : ∃ T, Hd.there l k = T := ⟨_, rfl⟩
    obtain ⟨f0, hf0⟩ : ∃ f0, first l k = f0 := ⟨_, rfl⟩
    have hfv : findV l k = .tuple #[prV f0, .bool T] := by unfold findV; rw [hf0, hT]
    rw [hfv] at HF
    clear hf0 hfv
    obtain ⟨f1, f2, f3, f4⟩ := f0
    simp only [prV] at HF
    have HT := Lib.hid hT
    have HNN := Lib.hid hnm
    clear hT hnm
    go_enter Tryz.func128, Tryz.ntmps128
    go_wp2_with fail
    refine (HNM.out _).mono ?_
    rintro e w' ⟨rfl, rfl⟩
    go_wp2_with fail
    refine (HF.out _ HP0.out).mono ?_
    rintro e w1 ⟨rfl, hB⟩
    have HB1 := Lib.hid (bthen HB0.out hB (Nat.le_refl _))
    have hlt : w.heap.size < (w.alloc (.cells #[.string (ofL k), .int .u8 (kd : Int), .int .i64 n, .string (ofL t)] 94)).heap.size := by simp
    have HA1 := Lib.hid (HA0.out.below hB hlt)
    have hlt1 : w.heap.size < w1.heap.size := Nat.lt_of_lt_of_le hlt hB.size
    clear hB hlt
    have HAX := Lib.hid (HA1.out.below ((Below.refl w1.heap.size w1).alloc (Nat.le_refl _) (.cells #[.string (ofL f1), .int .u8 (f2 : Int), .int .i64 f3, .string (ofL f4)] 94)) hlt1)
    have HB2 := Lib.hid (HB1.out.alloc HB1.out.size (.cells #[.string (ofL f1), .int .u8 (f2 : Int), .int .i64 f3, .string (ofL f4)] 94))
    clear HB0 HA0 HP0 HNM HF HP HA1
    by_cases h3 : 2 < kd
    · have hx : decide ((3 : Int) ≤ (kd : Int)) = true := decide_eq_true (by omega)
      have hx2 : decide ((2 : Int) < (kd : Int)) = true := decide_eq_true (by omega)
      have HC := Lib.hid (show Hd.pcode ⟨k, kd, n, t⟩ l = 8 from pcode_bad (by simp [Hd.bad, HNN.out, h3]) (by decide))
      have c0 := HAX.out.c0
      have c1 : _ = some (Value.int .u8 ((kd : Int))) := HAX.out.c1
      have c2 : _ = some (Value.int .i64 (n)) := HAX.out.c2
      have c3 : _ = some (Value.string (ofL t)) := HAX.out.c3
      simp only [Nat.zero_add] at c0 c1 c2 c3
      go_wp2_with fail
      go_ret
      exact ⟨ret_nat (by rw [HC.out]; rfl), HB2.out⟩
    · obtain rfl | rfl | rfl : kd = 0 ∨ kd = 1 ∨ kd = 2 := by omega
      · clear h3
        by_cases hte : t = []
        · subst hte
          cases T with
          | true =>
            have HC := Lib.hid (show Hd.pcode ⟨k, 0, n, []⟩ l = 9 from (pcode_good (p := ⟨k, 0, n, []⟩) (by simp [Hd.bad, HNN.out]) _ HT.out))
            have c0 := HAX.out.c0
            have c1 : _ = some (Value.int .u8 (0)) := HAX.out.c1
            have c2 : _ = some (Value.int .i64 (n)) := HAX.out.c2
            have c3 : _ = some (Value.string (⟨#[]⟩)) := HAX.out.c3
            simp only [Nat.zero_add] at c0 c1 c2 c3
            go_wp2_with fail
            go_ret
            exact ⟨ret_nat (by rw [HC.out]; rfl), HB2.out⟩
          | false =>
            have HC := Lib.hid (show Hd.pcode ⟨k, 0, n, []⟩ l = 0 from (pcode_good (p := ⟨k, 0, n, []⟩) (by simp [Hd.bad, HNN.out]) _ HT.out))
            have c0 := HAX.out.c0
            have c1 : _ = some (Value.int .u8 (0)) := HAX.out.c1
            have c2 : _ = some (Value.int .i64 (n)) := HAX.out.c2
            have c3 : _ = some (Value.string (⟨#[]⟩)) := HAX.out.c3
            simp only [Nat.zero_add] at c0 c1 c2 c3
            go_wp2_with fail
            go_ret
            exact ⟨ret_nat (by rw [HC.out]; rfl), HB2.out⟩
        · have hts := str_some hte
          have HC := Lib.hid (show Hd.pcode ⟨k, 0, n, t⟩ l = 4 from pcode_bad (by simp [Hd.bad, HNN.out, hte]) (by decide))
          have c0 := HAX.out.c0
          have c1 : _ = some (Value.int .u8 (0)) := HAX.out.c1
          have c2 : _ = some (Value.int .i64 (n)) := HAX.out.c2
          have c3 : _ = some (Value.string (ofL t)) := HAX.out.c3
          simp only [Nat.zero_add] at c0 c1 c2 c3
          go_wp2_with fail
          go_ret
          exact ⟨ret_nat (by rw [HC.out]; rfl), HB2.out⟩
      · clear h3
        by_cases hlen : 64 < t.length
        · have hlen2 : 64 < (ofL t).size := by omega
          have HC := Lib.hid (show Hd.pcode ⟨k, 1, n, t⟩ l = 5 from pcode_bad (by simp [Hd.bad, HNN.out, hlen]) (by decide))
          have c0 := HAX.out.c0
          have c1 : _ = some (Value.int .u8 (1)) := HAX.out.c1
          have c2 : _ = some (Value.int .i64 (n)) := HAX.out.c2
          have c3 : _ = some (Value.string (ofL t)) := HAX.out.c3
          simp only [Nat.zero_add] at c0 c1 c2 c3
          go_wp2_with fail
          go_ret
          exact ⟨ret_nat (by rw [HC.out]; rfl), HB2.out⟩
        · have hlen2 : ¬ 64 < (ofL t).size := by omega
          by_cases hn0 : n = 0
          · subst hn0
            cases T with
            | true =>
              have HC := Lib.hid (show Hd.pcode ⟨k, 1, 0, t⟩ l = 9 from (pcode_good (p := ⟨k, 1, 0, t⟩) (by simp [Hd.bad, HNN.out, hlen]) _ HT.out))
              have c0 := HAX.out.c0
              have c1 : _ = some (Value.int .u8 (1)) := HAX.out.c1
              have c2 : _ = some (Value.int .i64 (0)) := HAX.out.c2
              have c3 : _ = some (Value.string (ofL t)) := HAX.out.c3
              simp only [Nat.zero_add] at c0 c1 c2 c3
              go_wp2_with fail
              go_ret
              exact ⟨ret_nat (by rw [HC.out]; rfl), HB2.out⟩
            | false =>
              have HC := Lib.hid (show Hd.pcode ⟨k, 1, 0, t⟩ l = 0 from (pcode_good (p := ⟨k, 1, 0, t⟩) (by simp [Hd.bad, HNN.out, hlen]) _ HT.out))
              have c0 := HAX.out.c0
              have c1 : _ = some (Value.int .u8 (1)) := HAX.out.c1
              have c2 : _ = some (Value.int .i64 (0)) := HAX.out.c2
              have c3 : _ = some (Value.string (ofL t)) := HAX.out.c3
              simp only [Nat.zero_add] at c0 c1 c2 c3
              go_wp2_with fail
              go_ret
              exact ⟨ret_nat (by rw [HC.out]; rfl), HB2.out⟩
          · have hnb : (n != 0) = true := bne_iff_ne.2 hn0
            have HC := Lib.hid (show Hd.pcode ⟨k, 1, n, t⟩ l = 4 from pcode_bad (by simp [Hd.bad, HNN.out, hlen, hn0]) (by decide))
            have c0 := HAX.out.c0
            have c1 : _ = some (Value.int .u8 (1)) := HAX.out.c1
            have c2 : _ = some (Value.int .i64 (n)) := HAX.out.c2
            have c3 : _ = some (Value.string (ofL t)) := HAX.out.c3
            simp only [Nat.zero_add] at c0 c1 c2 c3
            go_wp2_with fail
            go_ret
            exact ⟨ret_nat (by rw [HC.out]; rfl), HB2.out⟩
      · clear h3
        by_cases hn0 : n = 0
        · subst hn0
          by_cases hte : t = []
          · subst hte
            cases T with
            | true =>
              have HC := Lib.hid (show Hd.pcode ⟨k, 2, 0, []⟩ l = 9 from (pcode_good (p := ⟨k, 2, 0, []⟩) (by simp [Hd.bad, HNN.out]) _ HT.out))
              have c0 := HAX.out.c0
              have c1 : _ = some (Value.int .u8 (2)) := HAX.out.c1
              have c2 : _ = some (Value.int .i64 (0)) := HAX.out.c2
              have c3 : _ = some (Value.string (⟨#[]⟩)) := HAX.out.c3
              simp only [Nat.zero_add] at c0 c1 c2 c3
              go_wp2_with fail
              go_ret
              exact ⟨ret_nat (by rw [HC.out]; rfl), HB2.out⟩
            | false =>
              have HC := Lib.hid (show Hd.pcode ⟨k, 2, 0, []⟩ l = 0 from (pcode_good (p := ⟨k, 2, 0, []⟩) (by simp [Hd.bad, HNN.out]) _ HT.out))
              have c0 := HAX.out.c0
              have c1 : _ = some (Value.int .u8 (2)) := HAX.out.c1
              have c2 : _ = some (Value.int .i64 (0)) := HAX.out.c2
              have c3 : _ = some (Value.string (⟨#[]⟩)) := HAX.out.c3
              simp only [Nat.zero_add] at c0 c1 c2 c3
              go_wp2_with fail
              go_ret
              exact ⟨ret_nat (by rw [HC.out]; rfl), HB2.out⟩
          · have hts := str_some hte
            have HC := Lib.hid (show Hd.pcode ⟨k, 2, 0, t⟩ l = 4 from pcode_bad (by simp [Hd.bad, HNN.out, hte]) (by decide))
            have c0 := HAX.out.c0
            have c1 : _ = some (Value.int .u8 (2)) := HAX.out.c1
            have c2 : _ = some (Value.int .i64 (0)) := HAX.out.c2
            have c3 : _ = some (Value.string (ofL t)) := HAX.out.c3
            simp only [Nat.zero_add] at c0 c1 c2 c3
            go_wp2_with fail
            go_ret
            exact ⟨ret_nat (by rw [HC.out]; rfl), HB2.out⟩
        · by_cases hn1 : n = 1
          · subst hn1
            by_cases hte : t = []
            · subst hte
              cases T with
              | true =>
                have HC := Lib.hid (show Hd.pcode ⟨k, 2, 1, []⟩ l = 9 from (pcode_good (p := ⟨k, 2, 1, []⟩) (by simp [Hd.bad, HNN.out]) _ HT.out))
                have c0 := HAX.out.c0
                have c1 : _ = some (Value.int .u8 (2)) := HAX.out.c1
                have c2 : _ = some (Value.int .i64 (1)) := HAX.out.c2
                have c3 : _ = some (Value.string (⟨#[]⟩)) := HAX.out.c3
                simp only [Nat.zero_add] at c0 c1 c2 c3
                go_wp2_with fail
                go_ret
                exact ⟨ret_nat (by rw [HC.out]; rfl), HB2.out⟩
              | false =>
                have HC := Lib.hid (show Hd.pcode ⟨k, 2, 1, []⟩ l = 0 from (pcode_good (p := ⟨k, 2, 1, []⟩) (by simp [Hd.bad, HNN.out]) _ HT.out))
                have c0 := HAX.out.c0
                have c1 : _ = some (Value.int .u8 (2)) := HAX.out.c1
                have c2 : _ = some (Value.int .i64 (1)) := HAX.out.c2
                have c3 : _ = some (Value.string (⟨#[]⟩)) := HAX.out.c3
                simp only [Nat.zero_add] at c0 c1 c2 c3
                go_wp2_with fail
                go_ret
                exact ⟨ret_nat (by rw [HC.out]; rfl), HB2.out⟩
            · have hts := str_some hte
              have HC := Lib.hid (show Hd.pcode ⟨k, 2, 1, t⟩ l = 4 from pcode_bad (by simp [Hd.bad, HNN.out, hte]) (by decide))
              have c0 := HAX.out.c0
              have c1 : _ = some (Value.int .u8 (2)) := HAX.out.c1
              have c2 : _ = some (Value.int .i64 (1)) := HAX.out.c2
              have c3 : _ = some (Value.string (ofL t)) := HAX.out.c3
              simp only [Nat.zero_add] at c0 c1 c2 c3
              go_wp2_with fail
              go_ret
              exact ⟨ret_nat (by rw [HC.out]; rfl), HB2.out⟩
          · have hnb : (n == 0) = false := beq_eq_false_iff_ne.2 hn0
            have hnb1 : (n == 1) = false := beq_eq_false_iff_ne.2 hn1
            have hnc : (n != 0) = true := bne_iff_ne.2 hn0
            have hnc1 : (n != 1) = true := bne_iff_ne.2 hn1
            by_cases hneg : n < 0
            · have hle : ¬ 1 < n := by omega
              have HC := Lib.hid (show Hd.pcode ⟨k, 2, n, t⟩ l = 7 from pcode_bad (by simp [Hd.bad, HNN.out, hn0, hn1]) (by decide))
              have c0 := HAX.out.c0
              have c1 : _ = some (Value.int .u8 (2)) := HAX.out.c1
              have c2 : _ = some (Value.int .i64 (n)) := HAX.out.c2
              have c3 : _ = some (Value.string (ofL t)) := HAX.out.c3
              simp only [Nat.zero_add] at c0 c1 c2 c3
              go_wp2_with fail
              go_ret
              exact ⟨ret_nat (by rw [HC.out]; rfl), HB2.out⟩
            · have hgt : 1 < n := by omega
              have HC := Lib.hid (show Hd.pcode ⟨k, 2, n, t⟩ l = 7 from pcode_bad (by simp [Hd.bad, HNN.out, hn0, hn1]) (by decide))
              have c0 := HAX.out.c0
              have c1 : _ = some (Value.int .u8 (2)) := HAX.out.c1
              have c2 : _ = some (Value.int .i64 (n)) := HAX.out.c2
              have c3 : _ = some (Value.string (ofL t)) := HAX.out.c3
              simp only [Nat.zero_add] at c0 c1 c2 c3
              go_wp2_with fail
              go_ret
              exact ⟨ret_nat (by rw [HC.out]; rfl), HB2.out⟩
  · have HC := Lib.hid (show Hd.pcode ⟨k, kd, n, t⟩ l = Wrd.nameCode k from pcode_bad (bad_name hnm) hnm)
    have hne := code_ne hnm
    clear hnm
    go_enter Tryz.func128, Tryz.ntmps128
    go_wp2_with fail
    refine (HNM.out _).mono ?_
    rintro e w' ⟨rfl, rfl⟩
    go_wp2_with fail
    go_ret
    exact ⟨ret_nat (by rw [HC.out]), HB0.out⟩
end Go.Proofs.YtgaggelpjaiabaaGreatDoor
end
section
namespace Go.Proofs.YtgaggelpjaiabaaGreatDoor
open Go.ChangeShapes Go.WideShapes Go.ChangeAt Go.RowKit
/-- texts of a length that can be walked -/
def Lite (l : List Hd.Pr) : Prop := ∀ i, i < l.length → (Hd.pr l i).key.length ≤ 100000 ∧ (Hd.pr l i).txt.length ≤ 100000
theorem hcode_many {l : List Hd.Pr} (h : 8 < l.length) : Hd.hcode l = 6 := by unfold Hd.hcode; rw [if_pos h]
theorem hcode_all {l : List Hd.Pr} (h : ¬ 8 < l.length) (g : ∀ i, i < l.length → Hd.pcode (Hd.pr l i) (l.take i) = 0) : Hd.hcode l = 0 := by unfold Hd.hcode; rw [if_neg h]; exact Hd.scan_zero g
theorem hcode_at {l : List Hd.Pr} {k : Nat} (h : ¬ 8 < l.length) (hk : k < l.length) (g : ∀ i, i < k → Hd.pcode (Hd.pr l i) (l.take i) = 0) (hb : Hd.pcode (Hd.pr l k) (l.take k) ≠ 0) : Hd.hcode l = Hd.pcode (Hd.pr l k) (l.take k) := by
  unfold Hd.hcode
  rw [if_neg h]
  exact Hd.scan_at (f := fun i => Hd.pcode (Hd.pr l i) (l.take i)) hk g hb
theorem hcheck_any_at (l : List Hd.Pr) (b off c k : Nat) (x : Hd.Pr) (hx : Hd.pr l k = x) (hk : k < l.length) (hl : l.length ≤ 8) (hL : Lite l) (W : World) (h : Prs W (some ⟨b, off, none⟩) l) :
    Calls Tryz.prog 128 #[.agg #[.string (ofL x.key), .int .u8 (x.kind : Int), .int .i64 x.num, .string (ofL x.txt)], .slice (some ⟨b, off, none⟩) k c] W fun e w' => e = .returned (.int .i64 (Hd.pcode (Hd.pr l k) (l.take k) : Int)) ∧ Below W.heap.size W w' := by
  have := hcheck_any x.key x.kind x.num x.txt (l.take k) (some ⟨b, off, none⟩) c W (by rw [← hx]; exact (hL k hk).1) (by rw [← hx]; exact (hL k hk).2) (by rw [List.length_take]; omega) (h.take k)
  rw [List.length_take, Nat.min_eq_left (by omega)] at this
  rw [hx]
  exact this
set_option maxRecDepth 100000 in
set_option maxHeartbeats 4000000 in
theorem hCheck_any (l : List Hd.Pr) (A : Option Addr) (c : Nat) (w : World) (hl : l.length ≤ 100000) (hc : l.length ≤ c) (hL : Lite l) (hp : Prs w A l) :
    Calls Tryz.prog 133 #[.slice A l.length c] w fun e w' => e = .returned (.int .i64 (Hd.hcode l : Int)) ∧ Below w.heap.size w w' := by
  have HP := Lib.hid hp
  have HLT := Lib.hid hL
  clear hp hL
  obtain ⟨n, hn⟩ : ∃ n, n = l.length := ⟨_, rfl⟩
  by_cases h8 : 8 < l.length
  · have HC := Lib.hid (hcode_many h8)
    go_enter Tryz.func133, Tryz.ntmps133
    go_wp2_with fail
    go_ret
    exact ⟨ret_nat (by rw [HC.out]; rfl), Below.refl _ _⟩
  · have HALL := Lib.hid (fun g => hcode_all (l := l) h8 g)
    have HAT := Lib.hid (fun k hk g hb => hcode_at (l := l) (k := k) h8 hk g hb)
    have HN := Lib.hid hn
    rw [← hn]
    rw [← hn] at h8 hl hc
    clear hn
    go_enter Tryz.func133, Tryz.ntmps133
    go_wp2_with fail
    go_loopg [11] n (fun g i wr => ∃ k : Nat, k + g = n ∧ i = .int .i64 (k : Int) ∧ (∀ j, j < k → Hd.pcode (Hd.pr l j) (l.take j) = 0) ∧ Below w.heap.size w wr)
    case atStart => exact ⟨0, by omega, rfl, fun j hj => absurd hj (by omega), Below.refl _ _⟩
    case round =>
      obtain ⟨k, hk, rfl, hno, hBl⟩ := hrel
      have HBL := Lib.hid hBl
      have HNO := Lib.hid hno
      clear hBl hno
      by_cases hlt : k < n
      · have hkl : k < l.length := by have := HN.out; omega
        obtain ⟨b, off, rfl, hbl, hat⟩ := (HP.out.on HBL.out).at_ k hkl
        obtain ⟨x, hx⟩ : ∃ x, Hd.pr l k = x := ⟨_, rfl⟩
        have HCALL := Lib.hid (fun W h => hcheck_any_at l b off c k x hx hkl (by have := HN.out; omega) HLT.out W h)
        have HPR := Lib.hid (HP.out.on HBL.out)
        have HBX := Lib.hid (PrAt.new x wr)
        have HQ := Lib.hid (fun hb => HAT.out k hkl HNO.out hb)
        have HNX : Hid (Hd.pcode (Hd.pr l k) (l.take k) = 0 → ∀ j, j < k + 1 → Hd.pcode (Hd.pr l j) (l.take j) = 0) := fun h j hj => by
          by_cases e : j = k
          · rw [e]; exact h
          · exact HNO.out j (by omega)
        rw [hx] at hat
        generalize Hd.pcode (Hd.pr l k) (l.take k) = D at *
        clear hx
        obtain ⟨x1, x2, x3, x4⟩ := x
        obtain ⟨c0, c1, c2, c3⟩ := hat
        simp only at HCALL c0 c1 c2 c3
        try simp only at HBX
        have hkc : k ≤ c := by omega
        clear hkl
        go_wp2_with fail
        refine region_tail 4 (by kernel_rfl) (by kernel_rfl) ?_
        simp only [List.take_succ_cons, List.take_zero, List.drop_succ_cons, List.drop_zero]
        obtain ⟨y0, y1, y2, y3⟩ := HBX.out
        repeat still_step
        refine wpStill_nil ?_
        go_wp2_with fail
        have HS0 := Lib.hid (((Below.refl wr.heap.size wr).alloc (Nat.le_refl _) (.cells #[.string (ofL x1), .int .u8 (x2 : Int), .int .i64 x3, .string (ofL x4)] 94)).drew)
        with_reducible refine (HCALL.out _ (HPR.out.on HS0.out)).mono ?_
        rintro e w1 ⟨rfl, hB⟩
        have HB1 := Lib.hid (bthen (bthen HBL.out HS0.out (Nat.le_refl _)) hB (Nat.le_refl _))
        clear hB
        by_cases hD : D = 0
        · have hne2 := code_eq hD
          have HNX := Lib.hid (HNX.out hD)
          clear hD
          go_wp2_with fail
          go_roundg (gk - 1)
          case rel => exact ⟨k + 1, by omega, by go_num, HNX.out, HB1.out⟩
          case measure => omega
        · have hne2 := code_ne hD
          have HE := Lib.hid (HQ.out hD)
          clear hD
          go_wp2_with fail
          go_ret
          exact ⟨ret_nat (by rw [HE.out]), HB1.out⟩
      · have HE := Lib.hid (HALL.out (fun i hi => HNO.out i (by have := HN.out; omega)))
        go_wp2_with fail
        go_ret
        exact ⟨ret_nat (by rw [HE.out]; rfl), HBL.out⟩
/-- is a head gone through? -/
def lightB (l : List Hd.Pr) : Bool := decide (l.length ≤ 12) && l.all fun p => decide (p.key.length ≤ 40) && decide (p.txt.length ≤ 100)
theorem light_lite {l : List Hd.Pr} (h : lightB l = true) : l.length ≤ 12 ∧ Lite l ∧ ∀ p ∈ l, p.key.length ≤ 40 ∧ p.txt.length ≤ 100 := by
  unfold lightB at h
  rw [Bool.and_eq_true, decide_eq_true_eq, List.all_eq_true] at h
  have h2 : ∀ p ∈ l, p.key.length ≤ 40 ∧ p.txt.length ≤ 100 := fun p hp => by
    have := h.2 p hp
    rw [Bool.and_eq_true, decide_eq_true_eq, decide_eq_true_eq] at this
    exact this
  refine ⟨h.1, fun i hi => ?_, h2⟩
  rw [Hd.pr_at hi]
  have := h2 _ (List.getElem_mem hi)
  omega
end Go.Proofs.YtgaggelpjaiabaaGreatDoor
end
section
namespace Go.Proofs.YtgaggelpjaiabaaGreatDoor
open Go.ChangeShapes Go.WideShapes Go.ChangeAt Go.RowKit
/-! ### the library's pieces are the words -/
theorem splitK_cut : ∀ (n : Nat) (l : List UInt8), l.length ≤ n → Lib.splitK [46] 0 (Lib.count l [46]) l = Wrd.cut l := by
  intro n
  induction n with
  | zero =>
    intro l hl
    have : l = [] := List.length_eq_zero_iff.1 (by omega)
    subst this
    rw [Lib.count_miss (by simp [Lib.index])]
    rfl
  | succ n ih =>
    intro l hl
    by_cases hm : Lib.index l [46] = -1
    · rw [Lib.count_miss hm]
      have hno : (46 : UInt8) ∉ l := by
        rw [Lib.index_one] at hm
        intro hmem
        obtain ⟨k, hk, e⟩ := List.getElem_of_mem hmem
        exact Lib.indexByte_none hm k (by rw [List.getElem?_eq_getElem hk, e])
      rw [Wrd.cut_word hno]
      rfl
    · have hge := Lib.index_ge l [46]
      obtain ⟨i, hi⟩ : ∃ i : Nat, Lib.index l [46] = i := ⟨(Lib.index l [46]).toNat, by omega⟩
      have hc := Lib.count_hit (sub := [46]) (by simp) hi
      have hi1 := hi
      rw [Lib.index_one] at hi1
      obtain ⟨h1, h2⟩ := Lib.indexByte_some hi1
      obtain ⟨hil, he⟩ := List.getElem?_eq_some_iff.1 h1
      have hdec : l = l.take i ++ 46 :: l.drop (i + 1) := by
        have := List.take_append_drop i l
        rw [List.drop_eq_getElem_cons hil, he] at this
        exact this.symm
      have hno : (46 : UInt8) ∉ l.take i := by
        intro hmem
        obtain ⟨k, hk, e⟩ := List.getElem_of_mem hmem
        rw [List.length_take] at hk
        rw [List.getElem_take] at e
        exact h2 k (by omega) (by rw [List.getElem?_eq_getElem (by omega), e])
      have hcut : Wrd.cut l = l.take i :: Wrd.cut (l.drop (i + 1)) := by
        conv => lhs; rw [hdec]
        exact Wrd.cut_app hno _
      rw [hc, hcut, Nat.add_comm, Lib.splitK, if_neg (by rw [hi]; simp), hi]
      have e1 : ((i : Int).toNat + 0) = i := by omega
      have e2 : ((i : Int).toNat + ([46] : List UInt8).length) = i + 1 := by simp
      have e3 : i + ([46] : List UInt8).length = i + 1 := rfl
      rw [e1, e2, e3, ih _ (by rw [List.length_drop]; omega)]
def strs (ws : List (List UInt8)) : List Value := ws.map fun x => .string (ofL x)
theorem pieces_eq (l : List UInt8) : (Lib.splitB ⟨#[46]⟩ 0 (Lib.countB (ofL l) ⟨#[46]⟩) (ofL l)).map Value.string = strs (Wrd.cut l) := by
  have h := Lib.splitB_data ⟨#[46]⟩ 0 (Lib.countB (ofL l) ⟨#[46]⟩) (ofL l)
  have h2 : Lib.splitK (⟨#[46]⟩ : ByteArray).data.toList 0 (Lib.countB (ofL l) ⟨#[46]⟩) (ofL l).data.toList = Wrd.cut l := splitK_cut l.length l (Nat.le_refl _)
  rw [h2] at h
  rw [← h]
  unfold strs
  rw [List.map_map]
  apply List.map_congr_left
  intro s _
  show Value.string s = Value.string (ofL s.data.toList)
  rw [ofL_toList]
theorem pieces_len (l : List UInt8) : Lib.countB (ofL l) ⟨#[46]⟩ + 1 = (Wrd.cut l).length := by
  have h := congrArg List.length (pieces_eq l)
  rw [List.length_map, Lib.splitB_all ⟨#[46]⟩ (by decide) 0 _ _ rfl] at h
  rw [h]
  unfold strs
  rw [List.length_map]
/-- the library's own bound lies -/
def Len (w : World) : Prop := ∃ m, w.cell? ⟨1, 0, none⟩ = some (.int .i64 m)
theorem Len.pos {w : World} (h : Len w) : 1 < w.heap.size := by
  obtain ⟨m, hm⟩ := h
  exact World.block_lt_of_cell? w _ hm
theorem Len.below {w w' : World} {B : Nat} (h : Len w) (hb : Below B w w') (hB : 1 < B) : Len w' := by
  obtain ⟨m, hm⟩ := h
  exact ⟨m, (hb.cell (p := ⟨1, 0, none⟩) hB).trans hm⟩
theorem Len.on {w w' : World} (h : Len w) (hb : Below w.heap.size w w') : Len w' := h.below hb h.pos
/-- what a split leaves: a slice of the words in new memory -/
def SplitPost (w : World) (ws : List (List UInt8)) (e : Ending) (w' : World) : Prop := ∃ v, e = .returned v ∧ w'.ownsRow w.heap.size 9 1 v ws.length (strs ws) ∧ Below w.heap.size w w'
theorem own_new (w : World) (ws : List (List UInt8)) (h : ws.length ≤ maxLen) : (w.alloc (.cells (strs ws).toArray 9)).ownsRow w.heap.size 9 1 (.slice (some ⟨w.heap.size, 0, none⟩) ws.length ws.length) ws.length (strs ws) := by
  have hl : (strs ws).length = ws.length := by unfold strs; rw [List.length_map]
  refine ⟨by rw [hl, Nat.mul_one], Or.inr ⟨w.heap.size, ws.length, (strs ws).toArray, rfl, Nat.le_refl _, ?_, Nat.le_refl _, h, by rw [List.size_toArray, hl, Nat.mul_one], ?_⟩⟩
  · show (w.heap.push _)[w.heap.size]? = _
    rw [Array.getElem?_push_size]
  · rw [Nat.mul_one, ← hl]; simp
set_option maxHeartbeats 1000000 in
theorem split_any (l : List UInt8) (w : World) (hl : l.length ≤ 100000) (hL : Len w) : Calls Tryz.prog 175 #[.string (ofL l)] w (SplitPost w (Wrd.words l)) := by
  by_cases h0 : l.length = 0
  · rw [Wrd.words_nil h0, ofL_nil h0]
    go_enter Tryz.func175, Tryz.ntmps175
    go_wp2_with fail
    go_ret
    exact ⟨_, rfl, World.ownsRow_nil _ _ _ _, Below.refl _ _⟩
  · rw [Wrd.words_ne h0]
    have he := str_ne h0
    obtain ⟨m, hm⟩ := hL
    have hc := Tryz.strings_Split (ofL l) ⟨#[46]⟩ m w (by rw [ofL_size]; omega) hm (by decide)
    rw [pieces_eq, pieces_len] at hc
    have HC := Lib.hid hc
    have HO := Lib.hid (own_new w (Wrd.cut l) (by have := Wrd.cut_len l; unfold maxLen; omega))
    clear hc hm
    generalize ofL l = s at *
    go_enter Tryz.func175, Tryz.ntmps175
    go_wp2_with fail
    refine HC.out.mono ?_
    rintro e w' ⟨rfl, rfl⟩
    go_wp2_with fail
    go_ret
    exact ⟨_, rfl, HO.out, (Below.refl _ _).alloc (Nat.le_refl _) _⟩
end Go.Proofs.YtgaggelpjaiabaaGreatDoor
end
section
namespace Go.Proofs.YtgaggelpjaiabaaGreatDoor
open Go.ChangeShapes Go.WideShapes Go.ChangeAt Go.RowKit
/-- a row that can be read: of whatever kind of value -/
theorem row_shape {w : World} {B e : Nat} {v : Value} {n : Nat} {xs : List Value} (h : w.ownsRow B e 1 v n xs) :
    ∃ p cap, v = .slice p n cap ∧ xs.length = n ∧ ∀ j, j < n → ∃ g, p = some ⟨g, 0, none⟩ ∧ B ≤ g ∧ g < w.heap.size ∧ w.cell? ⟨g, j, none⟩ = xs[j]? := by
  obtain ⟨hl, h1 | ⟨g, cap, cur, rfl, hB, hb, h2⟩⟩ := h
  · obtain ⟨rfl, rfl⟩ := h1
    simp at hl
    subst hl
    exact ⟨none, 0, rfl, rfl, fun j hj => absurd hj (by omega)⟩
  · refine ⟨_, cap, rfl, by omega, fun j hj => ⟨g, rfl, hB, ?_, ?_⟩⟩
    · exact (Array.getElem?_eq_some_iff.1 hb).1
    · exact World.ownsRow.cellAt ⟨hl, Or.inr ⟨g, cap, cur, rfl, hB, hb, h2⟩⟩ j (by omega)
def Reads (w : World) (p : Option Addr) (ws : List (List UInt8)) : Prop := ∀ j (h : j < ws.length), ∃ g, p = some ⟨g, 0, none⟩ ∧ w.cell? ⟨g, j, none⟩ = some (.string (ofL ws[j]))
theorem strs_get (ws : List (List UInt8)) (j : Nat) (h : j < ws.length) : (strs ws)[j]? = some (.string (ofL ws[j])) := by
  unfold strs; rw [List.getElem?_map, List.getElem?_eq_getElem h]; rfl
theorem reads_own {w : World} {B : Nat} {v : Value} {ws : List (List UInt8)} (h : w.ownsRow B 9 1 v ws.length (strs ws)) : ∃ p cap, v = .slice p ws.length cap ∧ Reads w p ws := by
  obtain ⟨p, cap, rfl, _, h2⟩ := row_shape h
  refine ⟨p, cap, rfl, fun j hj => ?_⟩
  obtain ⟨g, e, _, _, hc⟩ := h2 j hj
  exact ⟨g, e, hc.trans (strs_get ws j hj)⟩
theorem Reads.on {w w' : World} {p : Option Addr} {ws : List (List UInt8)} (h : Reads w p ws) (hb : Below w.heap.size w w') : Reads w' p ws := by
  intro j hj
  obtain ⟨g, e, hc⟩ := h j hj
  refine ⟨g, e, ?_⟩
  rw [← hc]
  exact hb.cell (p := ⟨g, j, none⟩) (World.block_lt_of_cell? w _ hc)
end Go.Proofs.YtgaggelpjaiabaaGreatDoor
end
