/-
  THE LAW ChansCredit: walked.
-/
import Derived.Test.YtecjngodfciokaaGreatDoorCc28
import Derived.Test.YtecjngodfciokaaGreatDoorCc49

section
namespace Go.Proofs.YtecjngodfciokaaGreatDoor
open Go.ChangeShapes Go.WideShapes Go.ChangeAt Go.RowKit
theorem law26Awake_any (w : World) (hL : Len w) : Calls Tryz.prog 36 #[] w fun e w' => e = .returned (.bool true) ∧ Below w.heap.size w w' := by
  have HA := Lib.hid (awake26_any w hL)
  clear hL
  go_enter Tryz.func36, Tryz.ntmps36
  go_wp2_with fail
  refine HA.out.mono ?_
  rintro e w1 ⟨rfl, b1⟩
  have HB1 := Lib.hid b1
  clear b1
  go_wp2_with fail
  go_ret
  exact ⟨rfl, HB1.out⟩
set_option maxRecDepth 100000 in
set_option maxHeartbeats 8000000 in
theorem awake27_any (w : World) (hL : Len w) : Calls Tryz.prog 18 #[] w fun e w' => e = .returned (.bool true) ∧ Below w.heap.size w w' := by
  have HN := Lib.hid (fun W => chNew_any W)
  have HC := Lib.hid (fun W => chCredit_any Cn.new none 0 0 1 W (by omega))
  have HA := Lib.hid (fun W h => law26Awake_any W h)
  have HR0 := Lib.hid (fun W => chRoom_any { Cn.new with cr := 1 } none 0 0 W (by decide) (by omega))
  have HL1 := Lib.hid (fun W => chLend_any { Cn.new with cr := 1 } none 0 0 [] 1 [113] W (by omega) (by omega) (fun _ => rfl) rfl (Rws.nil _ _))
  have HR1 := Lib.hid (fun W A c => chRoom_any { Cn.new with cr := 1 } A 1 c W (by decide) (by omega))
  have HL0 := Lib.hid hL
  rw [if_pos (show crOk 1 = true from rfl), if_pos (show crOk 1 = true from rfl)] at HC
  simp only [chV, Cn.new] at HN HC HR0 HL1 HR1
  clear hL
  go_enter Tryz.func18, Tryz.ntmps18
  go_wp2_with fail
  refine (HN.out _).mono ?_
  rintro e w1 ⟨rfl, b1⟩
  have HB1 := Lib.hid b1
  clear b1
  go_wp2_with fail
  refine (HC.out _).mono ?_
  rintro e w2 ⟨rfl, b2⟩
  have HB2 := Lib.hid (bthen HB1.out b2 (Nat.le_refl _))
  clear b2
  have HX3 := Lib.hid (BoxC.new (w := w) (W := w2) HB2.out.size #[.int .i64 ((1 : Nat) : Int), .slice none 0 0, .slice none 0 0, .bool false, .int .u64 ((0 : Nat) : Int), .bool false, .slice none 0 0] 63)
  have HB3 := Lib.hid (bthen HB2.out (rtOne w2 (.cells #[.int .i64 ((1 : Nat) : Int), .slice none 0 0, .slice none 0 0, .bool false, .int .u64 ((0 : Nat) : Int), .bool false, .slice none 0 0] 63)) (Nat.le_refl _))
  generalize hg2 : w2.heap.size = g2 at *
  go_upto_region 2 with fail
  try rw [hg2]
  generalize w2.alloc (.cells #[.int .i64 ((1 : Nat) : Int), .slice none 0 0, .slice none 0 0, .bool false, .int .u64 ((0 : Nat) : Int), .bool false, .slice none 0 0] 63) = w3 at *
  have x0 := HX3.out.cs 0 _ rfl
  have x1 := HX3.out.cs 1 _ rfl
  have x2 := HX3.out.cs 2 _ rfl
  have x3 := HX3.out.cs 3 _ rfl
  have x4 := HX3.out.cs 4 _ rfl
  have x5 := HX3.out.cs 5 _ rfl
  have x6 := HX3.out.cs 6 _ rfl
  have xl := HX3.out.lt
  go_wp2_with fail
  refine (HA.out _ (HL0.out.on HB3.out)).mono ?_
  rintro e w4 ⟨rfl, b4⟩
  have HX4 := Lib.hid (HX3.out.on b4)
  have HB4 := Lib.hid (bthen HB3.out b4 (Nat.le_refl _))
  clear b4
  clear x0 x1 x2 x3 x4 x5 x6 xl
  have x0 := HX4.out.cs 0 _ rfl
  have x1 := HX4.out.cs 1 _ rfl
  have x2 := HX4.out.cs 2 _ rfl
  have x3 := HX4.out.cs 3 _ rfl
  have x4 := HX4.out.cs 4 _ rfl
  have x5 := HX4.out.cs 5 _ rfl
  have x6 := HX4.out.cs 6 _ rfl
  have xl := HX4.out.lt
  go_wp2_with fail
  refine (HR0.out _).mono ?_
  rintro e w5 ⟨rfl, b5⟩
  have HX5 := Lib.hid (HX4.out.on b5)
  have HB5 := Lib.hid (bthen HB4.out b5 (Nat.le_refl _))
  clear b5
  clear x0 x1 x2 x3 x4 x5 x6 xl
  have x0 := HX5.out.cs 0 _ rfl
  have x1 := HX5.out.cs 1 _ rfl
  have x2 := HX5.out.cs 2 _ rfl
  have x3 := HX5.out.cs 3 _ rfl
  have x4 := HX5.out.cs 4 _ rfl
  have x5 := HX5.out.cs 5 _ rfl
  have x6 := HX5.out.cs 6 _ rfl
  have xl := HX5.out.lt
  go_wp2_with fail
  refine (HL1.out _).mono ?_
  rintro e w6 ⟨g, c', rfl, -, -, -, b6⟩
  have HB6 := Lib.hid (bthen HB5.out b6 (Nat.le_refl _))
  clear b6
  simp only [chV]
  go_wp2_with fail
  refine (HR1.out _ _ _).mono ?_
  rintro e w7 ⟨rfl, b7⟩
  have HB7 := Lib.hid (bthen HB6.out b7 (Nat.le_refl _))
  clear b7
  go_wp2_with fail
  go_ret
  exact ⟨rfl, HB7.out⟩
def chL (x : Cn) (A : Option Addr) (n c : Nat) : List Value := [.int .i64 (x.cr : Int), .slice x.tA x.tn x.tc, .slice A n c, .bool x.su, .int .u64 (x.num : Int), .bool x.dr, .slice x.dA x.dn x.dc]
def xOf (m : Nat) : Cn := { Cn.new with cr := m }
/-- what each round keeps -/
def CcSt (w : World) (x : Cn) (G N g : Nat) (i : Value) (wr : World) : Prop :=
  ∃ k : Nat, k + g = N ∧ i = .int .i64 (k : Int) ∧ ∃ A c cs, BoxC w G (chL x A k c) wr ∧ k ≤ c ∧ (A = none → k = 0) ∧ Rws wr A cs ∧ cs.length = k * 2 ∧ (∀ u ∈ cs, u.oneCell' = true) ∧ (∀ a, A = some a → a.block ≠ G) ∧ Below w.heap.size w wr
set_option maxRecDepth 100000 in
set_option maxHeartbeats 16000000 in
theorem chansCredit_walk (n lent : Nat) (w : World) (hn : n < 18446744073709551616) (_hlt : lent < 256) (hL : Len w) :
    Calls Tryz.prog 5 #[.int .u64 (n : Int), .int .u8 (lent : Int)] w fun e w' => e = .returned (.bool true) ∧ Below w.heap.size w w' := by
  obtain ⟨N, hN⟩ : ∃ N, N = lent % 30 := ⟨_, rfl⟩
  have hkm : (lent : Int) % 30 = (N : Int) := by omega
  have HN30 := Lib.hid (show N < 30 by omega)
  clear hN
  have HN := Lib.hid (fun W => chNew_any W)
  have HC := Lib.hid (fun W => chCredit_any Cn.new none 0 0 n W hn)
  have HA := Lib.hid (fun W h => awake27_any W h)
  have HL0 := Lib.hid hL
  clear hL
  have HNN := Lib.hid hn
  clear hn
  simp only [chV, Cn.new] at HN
  go_enter Tryz.func5, Tryz.ntmps5
  go_wp2_with fail
  refine (HA.out _ HL0.out).mono ?_
  rintro e w1 ⟨rfl, b1⟩
  have HB1 := Lib.hid b1
  clear b1
  go_wp2_with fail
  refine (HN.out _).mono ?_
  rintro e w2 ⟨rfl, b2⟩
  have HB2 := Lib.hid (bthen HB1.out b2 (Nat.le_refl _))
  clear b2
  go_wp2_with fail
  have hwN : IntKind.i64.wrap (N : Int) = (N : Int) := by rw [IntKind.wrap_i64]; omega
  by_cases h0 : n = 0
  · subst h0
    rw [if_neg (show ¬ crOk 0 = true by decide), if_neg (show ¬ crOk 0 = true by decide)] at HC
    simp only [chV, Cn.new] at HC
    refine (HC.out _).mono ?_
    rintro e w3 ⟨rfl, b3⟩
    have HB3 := Lib.hid (bthen HB2.out b3 (Nat.le_refl _))
    clear b3
    have HX4 := Lib.hid (BoxC.new (w := w) (W := w3) HB3.out.size #[.int .i64 ((16 : Nat) : Int), .slice none 0 0, .slice none 0 0, .bool false, .int .u64 ((0 : Nat) : Int), .bool false, .slice none 0 0] 63)
    have HB4 := Lib.hid (bthen HB3.out (rtOne w3 (.cells #[.int .i64 ((16 : Nat) : Int), .slice none 0 0, .slice none 0 0, .bool false, .int .u64 ((0 : Nat) : Int), .bool false, .slice none 0 0] 63)) (Nat.le_refl _))
    have HG3 := Lib.hid (show w.heap.size ≤ w3.heap.size from HB3.out.size)
    generalize hg3 : w3.heap.size = g3 at *
    go_upto_region 4 with fail
    try rw [hg3]
    generalize w3.alloc (.cells #[.int .i64 ((16 : Nat) : Int), .slice none 0 0, .slice none 0 0, .bool false, .int .u64 ((0 : Nat) : Int), .bool false, .slice none 0 0] 63) = w4 at *
    have HS := Lib.hid (show CcSt w (xOf 16) g3 N N (.int .i64 ((0 : Nat) : Int)) w4 from ⟨0, by omega, rfl, none, 0, [], HX4.out, Nat.le_refl _, fun _ => rfl, Rws.nil _ _, rfl, (fun u hu => by simp at hu), (fun a ha => by cases ha), HB4.out⟩)
    clear HX4 HB4 HC HN HA
    go_wp2_with fail
    go_loopg [8, 33] N (fun g _ i wr => CcSt w (xOf 16) g3 N g i wr)
    case atStart => exact HS.out
    case round =>
      have HKM := Lib.hid hkm
      clear hkm
      obtain ⟨k, hk, rfl, A, c, cs, hbox, hcc, hnn, hrw, hlen, hone, hnb, hB⟩ := hrel
      have HK := Lib.hid hk
      have HX4 := Lib.hid hbox
      have HCC := Lib.hid hcc
      have HNN2 := Lib.hid hnn
      have HRW := Lib.hid hrw
      have HLEN := Lib.hid hlen
      have HONE := Lib.hid hone
      have HNB := Lib.hid hnb
      have HB4 := Lib.hid hB
      have hk30 : k < 31 := by have := HN30.out; omega
      clear hk hbox hcc hnn hrw hlen hone hnb hB HS
      have hs : IntKind.i64.wrap (16 - (k : Int)) = 16 - (k : Int) := by rw [IntKind.wrap_i64]; omega
      have hmx : ∀ (W : World) (ts : Array TypeId) (t : TypeId), (Builtin.max_ ts t #[.int .i64 0, .int .i64 (16 - (k : Int))]).run Tryz.prog W = .ok (.int .i64 ((16 - k : Nat) : Int)) W := fun W ts t => by
        rw [max2_runC, show max 0 (16 - (k : Int)) = ((16 - k : Nat) : Int) by omega]
      have HRM := Lib.hid (fun W => chRoom_any (xOf 16) A k c W (show 16 ≤ 16 by omega) (by omega))
      simp only [chV, xOf, Cn.new] at HRM
      have x0 := HX4.out.cs 0 _ rfl
      have x1 := HX4.out.cs 1 _ rfl
      have x2 := HX4.out.cs 2 _ rfl
      have x3 := HX4.out.cs 3 _ rfl
      have x4 := HX4.out.cs 4 _ rfl
      have x5 := HX4.out.cs 5 _ rfl
      have x6 := HX4.out.cs 6 _ rfl
      have xl := HX4.out.lt
      by_cases hlt : k < N
      · have hki : (k : Int) < (N : Int) := by omega
        have HUN := Lib.hid (fun W h => chUns_any (xOf 16) A k c cs W (by omega) h HLEN.out HONE.out)
        have HLE := Lib.hid (fun W h => chLend_any (xOf 16) A k c cs k [113] W (by omega) HCC.out HNN2.out HLEN.out h)
        simp only [chV, xOf, Cn.new] at HUN HLE
        have hkk : ((k : Int) != (k : Int)) = false := by simp
        have hmm : (((16 - k : Nat) : Int) != ((16 - k : Nat) : Int)) = false := by simp
        have hwk : IntKind.u64.wrap (k : Int) = (k : Int) := by rw [IntKind.wrap_u64]; omega
        generalize 16 - k = dk at *
        go_wp2_with fail
        refine (HRM.out _).mono ?_
        rintro e w5 ⟨rfl, b5⟩
        have HX5 := Lib.hid (HX4.out.on b5)
        have HB5 := Lib.hid (bthen HB4.out b5 (Nat.le_refl _))
        have HRW5 := Lib.hid (HRW.out.on b5)
        clear b5
        clear x0 x1 x2 x3 x4 x5 x6 xl
        have x0 := HX5.out.cs 0 _ rfl
        have x1 := HX5.out.cs 1 _ rfl
        have x2 := HX5.out.cs 2 _ rfl
        have x3 := HX5.out.cs 3 _ rfl
        have x4 := HX5.out.cs 4 _ rfl
        have x5 := HX5.out.cs 5 _ rfl
        have x6 := HX5.out.cs 6 _ rfl
        have xl := HX5.out.lt
        go_wp2_with fail
        refine (HUN.out _ HRW5.out).mono ?_
        rintro e w6 ⟨A', c', rfl, -, -, -, b6⟩
        have HX6 := Lib.hid (HX5.out.on b6)
        have HB6 := Lib.hid (bthen HB5.out b6 (Nat.le_refl _))
        have HRW6 := Lib.hid (HRW5.out.on b6)
        clear b6
        clear x0 x1 x2 x3 x4 x5 x6 xl
        have x0 := HX6.out.cs 0 _ rfl
        have x1 := HX6.out.cs 1 _ rfl
        have x2 := HX6.out.cs 2 _ rfl
        have x3 := HX6.out.cs 3 _ rfl
        have x4 := HX6.out.cs 4 _ rfl
        have x5 := HX6.out.cs 5 _ rfl
        have x6 := HX6.out.cs 6 _ rfl
        have xl := HX6.out.lt
        go_wp2_with fail
        refine (HLE.out _ HRW6.out).mono ?_
        rintro e w7 ⟨g2, c2, rfl, hc2, hr2, hg2, b7⟩
        have HX7 := Lib.hid (HX6.out.on b7)
        have HB7 := Lib.hid (bthen HB6.out b7 (Nat.le_refl _))
        have HC2 := Lib.hid hc2
        have HR2 := Lib.hid hr2
        have HG2 := Lib.hid (show g3 < g2 from Nat.lt_of_lt_of_le HX6.out.lt hg2)
        clear b7 hc2 hr2 hg2
        clear x0 x1 x2 x3 x4 x5 x6 xl
        have x0 := HX7.out.cs 0 _ rfl
        have x1 := HX7.out.cs 1 _ rfl
        have x2 := HX7.out.cs 2 _ rfl
        have x3 := HX7.out.cs 3 _ rfl
        have x4 := HX7.out.cs 4 _ rfl
        have x5 := HX7.out.cs 5 _ rfl
        have x6 := HX7.out.cs 6 _ rfl
        have xl := HX7.out.lt
        have xf := HX7.out.s
        unfold Soft at xf
        simp only [chV]
        go_wp2_with fail
        have hX8 := HX7.out.fill (chL (xOf 16) (some ⟨g2, 0, none⟩) (k + 1) c2) rfl
        have hB8 := below_putAll HG3.out (chL (xOf 16) (some ⟨g2, 0, none⟩) (k + 1) c2) 0 HB7.out
        have hR8 := rwsAll (g := g3) (fun a ha => by cases ha; have := HG2.out; dsimp only; omega) (chL (xOf 16) (some ⟨g2, 0, none⟩) (k + 1) c2) 0 HR2.out
        have HX8 := Lib.hid hX8
        have HB8 := Lib.hid hB8
        have HR8 := Lib.hid hR8
        simp only [putAll, chL, xOf, Cn.new] at HX8 HB8 HR8
        clear hX8 hB8 hR8
        go_roundg (gk - 1)
        case rel => exact ⟨k + 1, by have := HK.out; omega, by go_num, some ⟨g2, 0, none⟩, c2, cs ++ ltL k [113], HX8.out, HC2.out, (fun h => by cases h), HR8.out, by rw [List.length_append, HLEN.out]; show _ = (k + 1) * 2; simp [ltL]; omega, (fun u hu => by rcases List.mem_append.1 hu with hu | hu; exact HONE.out u hu; simp only [ltL, List.mem_cons, List.not_mem_nil, or_false] at hu; rcases hu with rfl | rfl <;> rfl), (fun a ha => by cases ha; have := HG2.out; dsimp only; omega), HB8.out⟩
        case measure => have := HK.out; omega
      · have hkn : k = N := by have := HK.out; omega
        subst hkn
        have hkm := HKM.out
        have hmm : (((16 - k : Nat) : Int) == ((16 - k : Nat) : Int)) = true := by simp
        generalize 16 - k = dk at *
        go_wp2_with fail
        refine (HRM.out _).mono ?_
        rintro e w5 ⟨rfl, b5⟩
        have HB5 := Lib.hid (bthen HB4.out b5 (Nat.le_refl _))
        clear b5
        go_wp2_with fail
        go_ret
        exact ⟨rfl, HB5.out⟩
  · by_cases h16 : n ≤ 16
    · have hok : crOk n = true := by unfold crOk; rw [decide_eq_true (by omega : 1 ≤ n), decide_eq_true h16]; rfl
      rw [if_pos hok, if_pos hok] at HC
      simp only [chV, Cn.new] at HC
      have hd1 : decide ((n : Int) ≥ 1) = true := decide_eq_true (by omega)
      have hd1n : decide (1 ≤ n) = true := decide_eq_true (by omega)
      have hd2 : decide ((n : Int) ≤ 16) = true := decide_eq_true (by omega)
      have hd2n : decide (n ≤ 16) = true := decide_eq_true (by omega)
      have hwn : IntKind.i64.wrap (n : Int) = (n : Int) := by rw [IntKind.wrap_i64]; omega
      clear hok
      refine (HC.out _).mono ?_
      rintro e w3 ⟨rfl, b3⟩
      have HB3 := Lib.hid (bthen HB2.out b3 (Nat.le_refl _))
      clear b3
      have HX4 := Lib.hid (BoxC.new (w := w) (W := w3) HB3.out.size #[.int .i64 ((n : Nat) : Int), .slice none 0 0, .slice none 0 0, .bool false, .int .u64 ((0 : Nat) : Int), .bool false, .slice none 0 0] 63)
      have HB4 := Lib.hid (bthen HB3.out (rtOne w3 (.cells #[.int .i64 ((n : Nat) : Int), .slice none 0 0, .slice none 0 0, .bool false, .int .u64 ((0 : Nat) : Int), .bool false, .slice none 0 0] 63)) (Nat.le_refl _))
      have HG3 := Lib.hid (show w.heap.size ≤ w3.heap.size from HB3.out.size)
      generalize hg3 : w3.heap.size = g3 at *
      go_upto_region 4 with fail
      try rw [hg3]
      generalize w3.alloc (.cells #[.int .i64 ((n : Nat) : Int), .slice none 0 0, .slice none 0 0, .bool false, .int .u64 ((0 : Nat) : Int), .bool false, .slice none 0 0] 63) = w4 at *
      have HS := Lib.hid (show CcSt w (xOf n) g3 N N (.int .i64 ((0 : Nat) : Int)) w4 from ⟨0, by omega, rfl, none, 0, [], HX4.out, Nat.le_refl _, fun _ => rfl, Rws.nil _ _, rfl, (fun u hu => by simp at hu), (fun a ha => by cases ha), HB4.out⟩)
      clear HX4 HB4 HC HN HA
      go_wp2_with fail
      go_loopg [8, 33] N (fun g _ i wr => CcSt w (xOf n) g3 N g i wr)
      case atStart => exact HS.out
      case round =>
        have HKM := Lib.hid hkm
        clear hkm
        obtain ⟨k, hk, rfl, A, c, cs, hbox, hcc, hnn, hrw, hlen, hone, hnb, hB⟩ := hrel
        have HK := Lib.hid hk
        have HX4 := Lib.hid hbox
        have HCC := Lib.hid hcc
        have HNN2 := Lib.hid hnn
        have HRW := Lib.hid hrw
        have HLEN := Lib.hid hlen
        have HONE := Lib.hid hone
        have HNB := Lib.hid hnb
        have HB4 := Lib.hid hB
        have hk30 : k < 31 := by have := HN30.out; omega
        clear hk hbox hcc hnn hrw hlen hone hnb hB HS
        have hs : IntKind.i64.wrap ((n : Int) - (k : Int)) = (n : Int) - (k : Int) := by rw [IntKind.wrap_i64]; omega
        have hmx : ∀ (W : World) (ts : Array TypeId) (t : TypeId), (Builtin.max_ ts t #[.int .i64 0, .int .i64 ((n : Int) - (k : Int))]).run Tryz.prog W = .ok (.int .i64 ((n - k : Nat) : Int)) W := fun W ts t => by
          rw [max2_runC, show max 0 ((n : Int) - (k : Int)) = ((n - k : Nat) : Int) by omega]
        have HRM := Lib.hid (fun W => chRoom_any (xOf n) A k c W (show n ≤ 16 by omega) (by omega))
        simp only [chV, xOf, Cn.new] at HRM
        have x0 := HX4.out.cs 0 _ rfl
        have x1 := HX4.out.cs 1 _ rfl
        have x2 := HX4.out.cs 2 _ rfl
        have x3 := HX4.out.cs 3 _ rfl
        have x4 := HX4.out.cs 4 _ rfl
        have x5 := HX4.out.cs 5 _ rfl
        have x6 := HX4.out.cs 6 _ rfl
        have xl := HX4.out.lt
        by_cases hlt : k < N
        · have hki : (k : Int) < (N : Int) := by omega
          have HUN := Lib.hid (fun W h => chUns_any (xOf n) A k c cs W (by omega) h HLEN.out HONE.out)
          have HLE := Lib.hid (fun W h => chLend_any (xOf n) A k c cs k [113] W (by omega) HCC.out HNN2.out HLEN.out h)
          simp only [chV, xOf, Cn.new] at HUN HLE
          have hkk : ((k : Int) != (k : Int)) = false := by simp
          have hmm : (((n - k : Nat) : Int) != ((n - k : Nat) : Int)) = false := by simp
          have hwk : IntKind.u64.wrap (k : Int) = (k : Int) := by rw [IntKind.wrap_u64]; omega
          generalize n - k = dk at *
          go_wp2_with fail
          refine (HRM.out _).mono ?_
          rintro e w5 ⟨rfl, b5⟩
          have HX5 := Lib.hid (HX4.out.on b5)
          have HB5 := Lib.hid (bthen HB4.out b5 (Nat.le_refl _))
          have HRW5 := Lib.hid (HRW.out.on b5)
          clear b5
          clear x0 x1 x2 x3 x4 x5 x6 xl
          have x0 := HX5.out.cs 0 _ rfl
          have x1 := HX5.out.cs 1 _ rfl
          have x2 := HX5.out.cs 2 _ rfl
          have x3 := HX5.out.cs 3 _ rfl
          have x4 := HX5.out.cs 4 _ rfl
          have x5 := HX5.out.cs 5 _ rfl
          have x6 := HX5.out.cs 6 _ rfl
          have xl := HX5.out.lt
          go_wp2_with fail
          refine (HUN.out _ HRW5.out).mono ?_
          rintro e w6 ⟨A', c', rfl, -, -, -, b6⟩
          have HX6 := Lib.hid (HX5.out.on b6)
          have HB6 := Lib.hid (bthen HB5.out b6 (Nat.le_refl _))
          have HRW6 := Lib.hid (HRW5.out.on b6)
          clear b6
          clear x0 x1 x2 x3 x4 x5 x6 xl
          have x0 := HX6.out.cs 0 _ rfl
          have x1 := HX6.out.cs 1 _ rfl
          have x2 := HX6.out.cs 2 _ rfl
          have x3 := HX6.out.cs 3 _ rfl
          have x4 := HX6.out.cs 4 _ rfl
          have x5 := HX6.out.cs 5 _ rfl
          have x6 := HX6.out.cs 6 _ rfl
          have xl := HX6.out.lt
          go_wp2_with fail
          refine (HLE.out _ HRW6.out).mono ?_
          rintro e w7 ⟨g2, c2, rfl, hc2, hr2, hg2, b7⟩
          have HX7 := Lib.hid (HX6.out.on b7)
          have HB7 := Lib.hid (bthen HB6.out b7 (Nat.le_refl _))
          have HC2 := Lib.hid hc2
          have HR2 := Lib.hid hr2
          have HG2 := Lib.hid (show g3 < g2 from Nat.lt_of_lt_of_le HX6.out.lt hg2)
          clear b7 hc2 hr2 hg2
          clear x0 x1 x2 x3 x4 x5 x6 xl
          have x0 := HX7.out.cs 0 _ rfl
          have x1 := HX7.out.cs 1 _ rfl
          have x2 := HX7.out.cs 2 _ rfl
          have x3 := HX7.out.cs 3 _ rfl
          have x4 := HX7.out.cs 4 _ rfl
          have x5 := HX7.out.cs 5 _ rfl
          have x6 := HX7.out.cs 6 _ rfl
          have xl := HX7.out.lt
          have xf := HX7.out.s
          unfold Soft at xf
          simp only [chV]
          go_wp2_with fail
          have hX8 := HX7.out.fill (chL (xOf n) (some ⟨g2, 0, none⟩) (k + 1) c2) rfl
          have hB8 := below_putAll HG3.out (chL (xOf n) (some ⟨g2, 0, none⟩) (k + 1) c2) 0 HB7.out
          have hR8 := rwsAll (g := g3) (fun a ha => by cases ha; have := HG2.out; dsimp only; omega) (chL (xOf n) (some ⟨g2, 0, none⟩) (k + 1) c2) 0 HR2.out
          have HX8 := Lib.hid hX8
          have HB8 := Lib.hid hB8
          have HR8 := Lib.hid hR8
          simp only [putAll, chL, xOf, Cn.new] at HX8 HB8 HR8
          clear hX8 hB8 hR8
          go_roundg (gk - 1)
          case rel => exact ⟨k + 1, by have := HK.out; omega, by go_num, some ⟨g2, 0, none⟩, c2, cs ++ ltL k [113], HX8.out, HC2.out, (fun h => by cases h), HR8.out, by rw [List.length_append, HLEN.out]; show _ = (k + 1) * 2; simp [ltL]; omega, (fun u hu => by rcases List.mem_append.1 hu with hu | hu; exact HONE.out u hu; simp only [ltL, List.mem_cons, List.not_mem_nil, or_false] at hu; rcases hu with rfl | rfl <;> rfl), (fun a ha => by cases ha; have := HG2.out; dsimp only; omega), HB8.out⟩
          case measure => have := HK.out; omega
        · have hkn : k = N := by have := HK.out; omega
          subst hkn
          have hkm := HKM.out
          have hmm : (((n - k : Nat) : Int) == ((n - k : Nat) : Int)) = true := by simp
          generalize n - k = dk at *
          go_wp2_with fail
          refine (HRM.out _).mono ?_
          rintro e w5 ⟨rfl, b5⟩
          have HB5 := Lib.hid (bthen HB4.out b5 (Nat.le_refl _))
          clear b5
          go_wp2_with fail
          go_ret
          exact ⟨rfl, HB5.out⟩
    · have hok : ¬ crOk n = true := by unfold crOk; rw [decide_eq_false h16]; simp
      rw [if_neg hok, if_neg hok] at HC
      simp only [chV, Cn.new] at HC
      have hd1 : decide ((n : Int) ≥ 1) = true := decide_eq_true (by omega)
      have hd1n : decide (1 ≤ n) = true := decide_eq_true (by omega)
      have hd2 : decide ((n : Int) ≤ 16) = false := decide_eq_false (by omega)
      have hd2n : decide (n ≤ 16) = false := decide_eq_false (by omega)
      clear hok
      refine (HC.out _).mono ?_
      rintro e w3 ⟨rfl, b3⟩
      have HB3 := Lib.hid (bthen HB2.out b3 (Nat.le_refl _))
      clear b3
      have HX4 := Lib.hid (BoxC.new (w := w) (W := w3) HB3.out.size #[.int .i64 ((16 : Nat) : Int), .slice none 0 0, .slice none 0 0, .bool false, .int .u64 ((0 : Nat) : Int), .bool false, .slice none 0 0] 63)
      have HB4 := Lib.hid (bthen HB3.out (rtOne w3 (.cells #[.int .i64 ((16 : Nat) : Int), .slice none 0 0, .slice none 0 0, .bool false, .int .u64 ((0 : Nat) : Int), .bool false, .slice none 0 0] 63)) (Nat.le_refl _))
      have HG3 := Lib.hid (show w.heap.size ≤ w3.heap.size from HB3.out.size)
      generalize hg3 : w3.heap.size = g3 at *
      go_upto_region 4 with fail
      try rw [hg3]
      generalize w3.alloc (.cells #[.int .i64 ((16 : Nat) : Int), .slice none 0 0, .slice none 0 0, .bool false, .int .u64 ((0 : Nat) : Int), .bool false, .slice none 0 0] 63) = w4 at *
      have HS := Lib.hid (show CcSt w (xOf 16) g3 N N (.int .i64 ((0 : Nat) : Int)) w4 from ⟨0, by omega, rfl, none, 0, [], HX4.out, Nat.le_refl _, fun _ => rfl, Rws.nil _ _, rfl, (fun u hu => by simp at hu), (fun a ha => by cases ha), HB4.out⟩)
      clear HX4 HB4 HC HN HA
      go_wp2_with fail
      go_loopg [8, 33] N (fun g _ i wr => CcSt w (xOf 16) g3 N g i wr)
      case atStart => exact HS.out
      case round =>
        have HKM := Lib.hid hkm
        clear hkm
        obtain ⟨k, hk, rfl, A, c, cs, hbox, hcc, hnn, hrw, hlen, hone, hnb, hB⟩ := hrel
        have HK := Lib.hid hk
        have HX4 := Lib.hid hbox
        have HCC := Lib.hid hcc
        have HNN2 := Lib.hid hnn
        have HRW := Lib.hid hrw
        have HLEN := Lib.hid hlen
        have HONE := Lib.hid hone
        have HNB := Lib.hid hnb
        have HB4 := Lib.hid hB
        have hk30 : k < 31 := by have := HN30.out; omega
        clear hk hbox hcc hnn hrw hlen hone hnb hB HS
        have hs : IntKind.i64.wrap (16 - (k : Int)) = 16 - (k : Int) := by rw [IntKind.wrap_i64]; omega
        have hmx : ∀ (W : World) (ts : Array TypeId) (t : TypeId), (Builtin.max_ ts t #[.int .i64 0, .int .i64 (16 - (k : Int))]).run Tryz.prog W = .ok (.int .i64 ((16 - k : Nat) : Int)) W := fun W ts t => by
          rw [max2_runC, show max 0 (16 - (k : Int)) = ((16 - k : Nat) : Int) by omega]
        have HRM := Lib.hid (fun W => chRoom_any (xOf 16) A k c W (show 16 ≤ 16 by omega) (by omega))
        simp only [chV, xOf, Cn.new] at HRM
        have x0 := HX4.out.cs 0 _ rfl
        have x1 := HX4.out.cs 1 _ rfl
        have x2 := HX4.out.cs 2 _ rfl
        have x3 := HX4.out.cs 3 _ rfl
        have x4 := HX4.out.cs 4 _ rfl
        have x5 := HX4.out.cs 5 _ rfl
        have x6 := HX4.out.cs 6 _ rfl
        have xl := HX4.out.lt
        by_cases hlt : k < N
        · have hki : (k : Int) < (N : Int) := by omega
          have HUN := Lib.hid (fun W h => chUns_any (xOf 16) A k c cs W (by omega) h HLEN.out HONE.out)
          have HLE := Lib.hid (fun W h => chLend_any (xOf 16) A k c cs k [113] W (by omega) HCC.out HNN2.out HLEN.out h)
          simp only [chV, xOf, Cn.new] at HUN HLE
          have hkk : ((k : Int) != (k : Int)) = false := by simp
          have hmm : (((16 - k : Nat) : Int) != ((16 - k : Nat) : Int)) = false := by simp
          have hwk : IntKind.u64.wrap (k : Int) = (k : Int) := by rw [IntKind.wrap_u64]; omega
          generalize 16 - k = dk at *
          go_wp2_with fail
          refine (HRM.out _).mono ?_
          rintro e w5 ⟨rfl, b5⟩
          have HX5 := Lib.hid (HX4.out.on b5)
          have HB5 := Lib.hid (bthen HB4.out b5 (Nat.le_refl _))
          have HRW5 := Lib.hid (HRW.out.on b5)
          clear b5
          clear x0 x1 x2 x3 x4 x5 x6 xl
          have x0 := HX5.out.cs 0 _ rfl
          have x1 := HX5.out.cs 1 _ rfl
          have x2 := HX5.out.cs 2 _ rfl
          have x3 := HX5.out.cs 3 _ rfl
          have x4 := HX5.out.cs 4 _ rfl
          have x5 := HX5.out.cs 5 _ rfl
          have x6 := HX5.out.cs 6 _ rfl
          have xl := HX5.out.lt
          go_wp2_with fail
          refine (HUN.out _ HRW5.out).mono ?_
          rintro e w6 ⟨A', c', rfl, -, -, -, b6⟩
          have HX6 := Lib.hid (HX5.out.on b6)
          have HB6 := Lib.hid (bthen HB5.out b6 (Nat.le_refl _))
          have HRW6 := Lib.hid (HRW5.out.on b6)
          clear b6
          clear x0 x1 x2 x3 x4 x5 x6 xl
          have x0 := HX6.out.cs 0 _ rfl
          have x1 := HX6.out.cs 1 _ rfl
          have x2 := HX6.out.cs 2 _ rfl
          have x3 := HX6.out.cs 3 _ rfl
          have x4 := HX6.out.cs 4 _ rfl
          have x5 := HX6.out.cs 5 _ rfl
          have x6 := HX6.out.cs 6 _ rfl
          have xl := HX6.out.lt
          go_wp2_with fail
          refine (HLE.out _ HRW6.out).mono ?_
          rintro e w7 ⟨g2, c2, rfl, hc2, hr2, hg2, b7⟩
          have HX7 := Lib.hid (HX6.out.on b7)
          have HB7 := Lib.hid (bthen HB6.out b7 (Nat.le_refl _))
          have HC2 := Lib.hid hc2
          have HR2 := Lib.hid hr2
          have HG2 := Lib.hid (show g3 < g2 from Nat.lt_of_lt_of_le HX6.out.lt hg2)
          clear b7 hc2 hr2 hg2
          clear x0 x1 x2 x3 x4 x5 x6 xl
          have x0 := HX7.out.cs 0 _ rfl
          have x1 := HX7.out.cs 1 _ rfl
          have x2 := HX7.out.cs 2 _ rfl
          have x3 := HX7.out.cs 3 _ rfl
          have x4 := HX7.out.cs 4 _ rfl
          have x5 := HX7.out.cs 5 _ rfl
          have x6 := HX7.out.cs 6 _ rfl
          have xl := HX7.out.lt
          have xf := HX7.out.s
          unfold Soft at xf
          simp only [chV]
          go_wp2_with fail
          have hX8 := HX7.out.fill (chL (xOf 16) (some ⟨g2, 0, none⟩) (k + 1) c2) rfl
          have hB8 := below_putAll HG3.out (chL (xOf 16) (some ⟨g2, 0, none⟩) (k + 1) c2) 0 HB7.out
          have hR8 := rwsAll (g := g3) (fun a ha => by cases ha; have := HG2.out; dsimp only; omega) (chL (xOf 16) (some ⟨g2, 0, none⟩) (k + 1) c2) 0 HR2.out
          have HX8 := Lib.hid hX8
          have HB8 := Lib.hid hB8
          have HR8 := Lib.hid hR8
          simp only [putAll, chL, xOf, Cn.new] at HX8 HB8 HR8
          clear hX8 hB8 hR8
          go_roundg (gk - 1)
          case rel => exact ⟨k + 1, by have := HK.out; omega, by go_num, some ⟨g2, 0, none⟩, c2, cs ++ ltL k [113], HX8.out, HC2.out, (fun h => by cases h), HR8.out, by rw [List.length_append, HLEN.out]; show _ = (k + 1) * 2; simp [ltL]; omega, (fun u hu => by rcases List.mem_append.1 hu with hu | hu; exact HONE.out u hu; simp only [ltL, List.mem_cons, List.not_mem_nil, or_false] at hu; rcases hu with rfl | rfl <;> rfl), (fun a ha => by cases ha; have := HG2.out; dsimp only; omega), HB8.out⟩
          case measure => have := HK.out; omega
        · have hkn : k = N := by have := HK.out; omega
          subst hkn
          have hkm := HKM.out
          have hmm : (((16 - k : Nat) : Int) == ((16 - k : Nat) : Int)) = true := by simp
          generalize 16 - k = dk at *
          go_wp2_with fail
          refine (HRM.out _).mono ?_
          rintro e w5 ⟨rfl, b5⟩
          have HB5 := Lib.hid (bthen HB4.out b5 (Nat.le_refl _))
          clear b5
          go_wp2_with fail
          go_ret
          exact ⟨rfl, HB5.out⟩
end Go.Proofs.YtecjngodfciokaaGreatDoor
end
