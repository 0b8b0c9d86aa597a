/-
  A NUMBER OF A TEXT: the document's answer, walked.
  A TEXT's LINES, A LINE's WORDS: the document's, walked.
  A PLACE's NUMBER; ARE TWO POLICIES THE SAME: the document's, walked.
-/
import Derived.Test.YtokljdaofjgihaaGreatDoorParB
import Derived.Test.YtokljdaofjgihaaGreatDoorPolC
import Derived.Test.YtokljdaofjgihaaGreatDoorWordC
import Derived.Test.YtokljdaofjgihaaGreatDoorParMath
import Derived.Test.YtokljdaofjgihaaGreatDoorLawE
import Derived.Test.YtokljdaofjgihaaGreatDoorLatEq
import Derived.Laws.StructEq
namespace Go.Proofs.YtokljdaofjgihaaGreatDoor
open Go.ChangeShapes Go.WideShapes Go.ChangeAt Go.RowKit

theorem val_take (l : List UInt8) (k : Nat) (h : k < l.length) : Lat.val (l.take (k + 1)) = 10 * Lat.val (l.take k) + (l[k].toNat - 48) := by
  rw [List.take_succ_eq_append_getElem h, Lat.val_snoc]
theorem num_bad {most : Nat} {l : List UInt8} {k : Nat} (h : k < l.length) (hm : Lat.dig l[k] = false) : Pl.num most l = (0, 4) := Pl.num_form (by unfold Pl.isNum; rw [digs_not h hm]; simp)
theorem num_full {most : Nat} {l : List UInt8} (h0 : 0 < l.length) (h1 : ¬ (1 < l.length ∧ l.head? = some 48)) (h : l.all Lat.dig = true) : Pl.num most l = if most < Lat.val l then (0, 7) else (Lat.val l, 0) := by
  have hn : Pl.isNum l = true := by
    unfold Pl.isNum
    rw [h]
    have e1 : l.isEmpty = false := by cases l <;> simp_all
    rw [e1]
    by_cases hh : 1 < l.length
    · have : ¬ l.head? = some 48 := fun e => h1 ⟨hh, e⟩
      simp [hh, this]
    · simp [hh]
  by_cases hm : most < Lat.val l
  · rw [if_pos hm, Pl.num_range hn hm]
  · rw [if_neg hm, Pl.num_ok hn hm]
theorem num_short {most : Nat} {l : List UInt8} (h : l.length = 0) : Pl.num most l = (0, 4) := by rw [List.length_eq_zero_iff.1 h]; rfl
theorem num_lead {most : Nat} {l : List UInt8} (h : 1 < l.length) (h2 : l.head? = some 48) : Pl.num most l = (0, 4) := Pl.num_form (by unfold Pl.isNum; simp [h, h2])
theorem Rd.tdiv (t n : Nat) : Int.tdiv (t : Int) (n : Int) = ((t / n : Nat) : Int) := by rw [Int.ofNat_tdiv]
def RNm (l : List UInt8) (most : Nat) (w : World) (g : Nat) (n gr i : Value) (wr : World) : Prop :=
  ∃ k N : Nat, k + g = l.length ∧ i = .int .i64 (k : Int) ∧ n = .int .u64 (N : Int) ∧ gr = .bool (decide (most < Lat.val (l.take k))) ∧ (¬ most < Lat.val (l.take k) → N = Lat.val (l.take k)) ∧ N ≤ most ∧ (l.take k).all Lat.dig = true ∧ wr = w
set_option maxRecDepth 100000 in
set_option maxHeartbeats 4000000 in
theorem rnum_any (l : List UInt8) (most : Nat) (w : World) (hl : l.length ≤ 100000) (hm : most < 18446744073709551616) :
    Calls Tryz.prog 84 #[.string (ofL l), .int .u64 (most : Int)] w fun e w' => e = .returned (.tuple #[.int .u64 ((Pl.num most l).1 : Int), .int .i64 ((Pl.num most l).2 : Int)]) ∧ w = w' := by
  have hsz : (ofL l).size = l.length := ofL_size l
  have HG : Hid (∀ p (h : p < l.length), (ofL l)[p]'(by rw [hsz]; exact h) = l[p]) := fun p h => rfl
  have HA := Lib.hid (fun k h => digs_take l k h)
  have HV := Lib.hid (fun k h => val_take l k h)
  have HBAD := Lib.hid (fun k h hd => num_bad (most := most) (l := l) (k := k) h hd)
  have HFULL := Lib.hid (fun h0 h1 h => num_full (most := most) (l := l) h0 h1 h)
  have HM := Lib.hid hm
  clear hm
  by_cases h0 : l.length = 0
  · have HR := Lib.hid (num_short (most := most) h0)
    have he : (ofL l) = ⟨#[]⟩ := ofL_nil h0
    rw [he]
    go_enter Tryz.func84, Tryz.ntmps84
    go_wp2_with fail
    go_ret2
    exact ⟨by rw [HR.out]; rfl, rfl⟩
  · by_cases hlead : 1 < l.length ∧ l.head? = some 48
    · have HR := Lib.hid (num_lead (most := most) hlead.1 hlead.2)
      have hks : 0 < (ofL l).size := by omega
      have hb : (((ofL l)[0].toNat : Nat) : Int) = 48 := by
        rw [HG.out 0 (by omega)]
        obtain ⟨h1, h2⟩ := hlead
        cases l with
        | nil => simp at h1
        | cons a t => simp at h2; subst h2; rfl
      have hl1 : 1 < l.length := hlead.1
      have d0 : ((l.length : Int) == 0) = false := by rw [beq_eq_false_iff_ne]; omega
      clear hlead h0
      go_enter Tryz.func84, Tryz.ntmps84
      go_wp2_with fail
      go_ret2
      exact ⟨by rw [HR.out]; rfl, rfl⟩
    · have d0 : ((l.length : Int) == 0) = false := by rw [beq_eq_false_iff_ne]; omega
      have HLEAD := Lib.hid hlead
      have h0p : 0 < l.length := by omega
      have hks0 : 0 < (ofL l).size := by omega
      have hcase : (¬ 1 < (l.length : Int)) ∨ (1 < (l.length : Int) ∧ ((((ofL l)[0].toNat : Nat) : Int) == 48) = false) := by
        by_cases h1 : 1 < l.length
        · refine .inr ⟨by omega, ?_⟩
          rw [beq_eq_false_iff_ne, HG.out 0 h0p]
          intro e
          refine hlead ⟨h1, ?_⟩
          cases l with
          | nil => simp at h1
          | cons a t =>
            simp at e ⊢
            exact UInt8.toNat_inj.1 (by simpa using (by omega : a.toNat = 48))
        · exact .inl (by omega)
      have HST := Lib.hid (show RNm l most w l.length (.int .u64 0) (.bool false) (.int .i64 0) w from ⟨0, 0, by omega, rfl, rfl, by simp [Lat.val], fun _ => by simp [Lat.val], by omega, by simp, rfl⟩)
      have HCASE := Lib.hid hcase
      clear hlead h0 hcase
      go_enter Tryz.func84, Tryz.ntmps84
      rcases HCASE.out with hc1 | ⟨hc1, hc2⟩
      all_goals
        go_wp2_with fail
        go_loopg [6, 7, 8] l.length (fun g n gr i wr => RNm l most w g n gr i wr)
        case atStart => exact HST.out
        case round =>
          obtain ⟨k, N, hk, rfl, rfl, rfl, hN, hNm, hall, rfl⟩ := hrel
          have HALL := Lib.hid hall
          have HN := Lib.hid hN
          clear hall hN
          by_cases hlt : k < l.length
          · have hks : k < (ofL l).size := by omega
            have HGK := Lib.hid (HG.out k hlt)
            cases hm : Lat.dig (l[k]'hlt) with
            | true =>
              have HT := Lib.hid (show (l.take (k + 1)).all Lat.dig = true by rw [HA.out k hlt, HALL.out, hm]; rfl)
              have HVK := Lib.hid (HV.out k hlt)
              have hb := Lat.dig_bounds hm
              rw [← HGK.out] at hb HVK
              clear hm
              obtain ⟨d, hd⟩ : ∃ d, (ofL l)[k].toNat = d + 48 := ⟨(ofL l)[k].toNat - 48, by omega⟩
              rw [hd, Nat.add_sub_cancel] at HVK
              have hd9 : d ≤ 9 := by omega
              have e0 : ((d + 48 : Nat) : Int) = (d : Int) + 48 := by omega
              have e1 : IntKind.u8.wrap ((d : Int) + 48 - 48) = (d : Int) := by rw [IntKind.wrap_u8]; omega
              have e2 : IntKind.u64.wrap (d : Int) = (d : Int) := by rw [IntKind.wrap_u64]; omega
              have hb1 : ¬ ((d : Int) + 48 < 48) := by omega
              have hb2 : ¬ (57 < (d : Int) + 48) := by omega
              have HD9 := Lib.hid hd9
              clear hb hd9
              generalize Lat.val (l.take k) = V at *
              by_cases hg : most < V
              · have hgr : decide (most < V) = true := decide_eq_true hg
                have HRR := Lib.hid (show ∀ n, n ≤ most → RNm l most wr (gk - 1) (.int .u64 (n : Int)) (.bool true) (.int .i64 ((k + 1 : Nat) : Int)) wr from fun n hn => ⟨k + 1, n, by omega, rfl, rfl, by rw [HVK.out, decide_eq_true (by omega)], fun h => absurd (show most < Lat.val (l.take (k + 1)) by rw [HVK.out]; omega) h, hn, HT.out, rfl⟩)
                clear hg
                go_wp2_with fail
                go_roundg (gk - 1)
                case rel => exact HRR.out N hNm
                case measure => omega
              · have hgr : decide (most < V) = false := decide_eq_false hg
                have hNV := HN.out hg
                subst hNV
                have HRR := Lib.hid (show most < 10 * N + d → ∀ n, n ≤ most → RNm l most wr (gk - 1) (.int .u64 (n : Int)) (.bool true) (.int .i64 ((k + 1 : Nat) : Int)) wr from fun h n hn => ⟨k + 1, n, by omega, rfl, rfl, by rw [HVK.out, decide_eq_true h], fun h2 => absurd (show most < Lat.val (l.take (k + 1)) by rw [HVK.out]; exact h) h2, hn, HT.out, rfl⟩)
                by_cases hd1 : most < d
                · have hc : (most : Int) < (d : Int) := by omega
                  have HRX := Lib.hid (HRR.out (by omega) N hNm)
                  clear hg hd1
                  go_wp2_with fail
                  go_roundg (gk - 1)
                  case rel => exact HRX.out
                  case measure => omega
                · have hc : ¬ ((most : Int) < (d : Int)) := by omega
                  have e3 : IntKind.u64.wrap ((most : Int) - (d : Int)) = ((most - d : Nat) : Int) := by have := HM.out; rw [IntKind.wrap_u64]; omega
                  have e4 : Int.tdiv ((most - d : Nat) : Int) 10 = (((most - d) / 10 : Nat) : Int) := Rd.tdiv (most - d) 10
                  have e5 : IntKind.u64.wrap (((most - d) / 10 : Nat) : Int) = (((most - d) / 10 : Nat) : Int) := by have := HM.out; rw [IntKind.wrap_u64]; omega
                  by_cases hq : (most - d) / 10 < N
                  · have hc2 : (((most - d) / 10 : Nat) : Int) < (N : Int) := by omega
                    have HRX := Lib.hid (HRR.out (by omega) N hNm)
                    clear hg hd1 hq
                    generalize (most - d) / 10 = Q at *
                    generalize most - d = Q0 at *
                    go_wp2_with fail
                    go_roundg (gk - 1)
                    case rel => exact HRX.out
                    case measure => omega
                  · have hc2 : ¬ ((((most - d) / 10 : Nat) : Int) < (N : Int)) := by omega
                    have hle : N * 10 + d ≤ most := by omega
                    have e6 : IntKind.u64.wrap ((N : Int) * 10) = ((N * 10 : Nat) : Int) := by have := HM.out; rw [IntKind.wrap_u64]; omega
                    have e7 : IntKind.u64.wrap (((N * 10 : Nat) : Int) + (d : Int)) = ((N * 10 + d : Nat) : Int) := by have := HM.out; rw [IntKind.wrap_u64]; omega
                    have HRX := Lib.hid (show RNm l most wr (gk - 1) (.int .u64 ((N * 10 + d : Nat) : Int)) (.bool false) (.int .i64 ((k + 1 : Nat) : Int)) wr from ⟨k + 1, N * 10 + d, by omega, rfl, rfl, by rw [HVK.out, decide_eq_false (by omega)], fun _ => by rw [HVK.out]; omega, hle, HT.out, rfl⟩)
                    clear hg hd1 hq hle
                    generalize (most - d) / 10 = Q at *
                    generalize most - d = Q0 at *
                    generalize N * 10 + d = Q1 at *
                    generalize N * 10 = Q2 at *
                    go_wp2_with fail
                    go_roundg (gk - 1)
                    case rel => exact HRX.out
                    case measure => omega
            | false =>
              have HF := Lib.hid (HBAD.out k hlt hm)
              by_cases hb1 : ((ofL l)[k].toNat : Int) < 48
              · clear hm
                go_wp2_with fail
                go_ret2
                exact ⟨by rw [HF.out]; rfl, rfl⟩
              · have hb2 : 57 < ((ofL l)[k].toNat : Int) := by
                  rw [HGK.out] at hb1 ⊢
                  rcases Nat.lt_or_ge 57 (l[k]'hlt).toNat with h | h
                  · omega
                  · rw [Lat.dig_of (by omega) h] at hm; cases hm
                clear hm
                go_wp2_with fail
                go_ret2
                exact ⟨by rw [HF.out]; rfl, rfl⟩
          · have hkl : k = l.length := by omega
            have HT := Lib.hid (show l.all Lat.dig = true by have := HALL.out; rw [hkl, List.take_length] at this; exact this)
            have HE : l.take k = l := by rw [hkl, List.take_length]
            rw [HE] at HN
            rw [HE]
            have HR := Lib.hid (HFULL.out h0p HLEAD.out HT.out)
            have HKL := Lib.hid hkl
            clear HE hkl
            generalize Lat.val l = V at *
            by_cases hg : most < V
            · have hgr : decide (most < V) = true := decide_eq_true hg
              rw [if_pos hg] at HR
              rw [hgr]
              clear hg hgr
              go_wp2_with fail
              go_ret2
              exact ⟨by rw [HR.out]; rfl, rfl⟩
            · have hgr : decide (most < V) = false := decide_eq_false hg
              have hNV := HN.out hg
              subst hNV
              rw [if_neg hg] at HR
              rw [hgr]
              clear hg hgr
              go_wp2_with fail
              go_ret2
              exact ⟨by rw [HR.out]; rfl, rfl⟩
theorem rsm_any (l : List UInt8) (w : World) (hl : l.length ≤ 100000) :
    Calls Tryz.prog 82 #[.string (ofL l)] w fun e w' => e = .returned (.tuple #[.int .i64 ((Pl.num Pl.small l).1 : Int), .int .i64 ((Pl.num Pl.small l).2 : Int)]) ∧ w = w' := by
  have HR := Lib.hid (show Calls Tryz.prog 84 #[.string (ofL l), .int .u64 1048576] w _ from rnum_any l 1048576 w hl (by decide))
  have hle := Pl.num_le 1048576 l
  simp only [Pl.small]
  generalize (Pl.num 1048576 l) = M at *
  obtain ⟨m, e⟩ := M
  have e1 : IntKind.i64.wrap (m : Int) = (m : Int) := by rw [IntKind.wrap_i64]; simp only at hle; omega
  clear hle
  go_enter Tryz.func82, Tryz.ntmps82
  go_wp2_with fail
  (with_reducible refine HR.out.mono ?_)
  rintro x w' ⟨rfl, rfl⟩
  go_wp2_with fail
  go_ret2
  exact ⟨rfl, rfl⟩
theorem rsm64_any (l : List UInt8) (w : World) (hl : l.length ≤ 100000) :
    Calls Tryz.prog 84 #[.string (ofL l), .int .u64 18446744073709551615] w fun e w' => e = .returned (.tuple #[.int .u64 ((Pl.num Pl.most l).1 : Int), .int .i64 ((Pl.num Pl.most l).2 : Int)]) ∧ w = w' :=
  rnum_any l 18446744073709551615 w hl (by decide)
end Go.Proofs.YtokljdaofjgihaaGreatDoor
namespace Go.Proofs.YtokljdaofjgihaaGreatDoor
open Go.ChangeShapes Go.WideShapes Go.ChangeAt Go.RowKit

theorem ln_cut {l : List UInt8} {j k : Nat} (hjk : j ≤ k) (hno : (10 : UInt8) ∉ (l.drop j).take (k - j)) (hc : l.drop k = 10 :: l.drop (k + 1)) : Pl.lines (l.drop j) = (l.drop j).take (k - j) :: Pl.lines (l.drop (k + 1)) := by
  have e : (l.drop j).drop (k - j) = l.drop k := by rw [List.drop_drop]; congr 1; omega
  have : l.drop j = (l.drop j).take (k - j) ++ 10 :: l.drop (k + 1) := by rw [← hc, ← e, List.take_append_drop]
  conv => lhs; rw [this]
  exact Pl.lines_app hno _
theorem ln_more {l : List UInt8} {j k : Nat} {b : UInt8} (hjk : j ≤ k) (hno : (10 : UInt8) ∉ (l.drop j).take (k - j)) (hc : l.drop k = b :: l.drop (k + 1)) (hb : b ≠ 10) : (10 : UInt8) ∉ (l.drop j).take (k + 1 - j) := by
  have e : (l.drop j).drop (k - j) = l.drop k := by rw [List.drop_drop]; congr 1; omega
  have e2 : (l.drop j).take (k + 1 - j) = (l.drop j).take (k - j) ++ [b] := by
    rw [show k + 1 - j = (k - j) + 1 by omega, List.take_add, e, hc]; rfl
  rw [e2]
  intro h
  rcases List.mem_append.1 h with h | h
  · exact hno h
  · rw [List.mem_singleton] at h; exact hb h.symm
def LnSt (l : List UInt8) (w : World) (g : Nat) (o f i : Value) (wr : World) : Prop :=
  ∃ (k j : Nat) (D : List (List UInt8)), k + g = l.length ∧ j ≤ k ∧ i = .int .i64 (k : Int) ∧ f = .int .i64 (j : Int) ∧ wr.ownsRow w.heap.size 9 1 o D.length (strs D) ∧ D.length ≤ j ∧
    Pl.lines l = D ++ Pl.lines (l.drop j) ∧ (10 : UInt8) ∉ (l.drop j).take (k - j) ∧ Below w.heap.size w wr
set_option maxRecDepth 100000 in
set_option maxHeartbeats 4000000 in
theorem rlines_any (l : List UInt8) (w : World) (hl : l.length ≤ 100000) : Calls Tryz.prog 54 #[.string (ofL l)] w (SplitPost w (Pl.lines l)) := by
  have hsz : (ofL l).size = l.length := ofL_size l
  have HG : Hid (∀ p (h : p < l.length), (ofL l)[p]'(by rw [hsz]; exact h) = l[p]) := fun p h => rfl
  have HX := Lib.hid (fun j k => extract_take l j k)
  have HXE := Lib.hid (fun j => show (ofL l).extract j l.length = ofL (l.drop j) by rw [← hsz, extract_drop]; rfl)
  obtain ⟨i0, hi0, hz0, hz1, hz2⟩ := info_parts info9
  go_enter Tryz.func54, Tryz.ntmps54
  go_wp2_with fail
  go_loopg [3, 4, 5] l.length (fun g o f i wr => LnSt l w g o f i wr)
  case atStart => exact ⟨0, 0, [], by omega, by omega, rfl, rfl, World.ownsRow_nil _ _ _ _, by simp, by simp, by simp, Below.refl _ _⟩
  case round =>
    obtain ⟨k, j, D, hk, hjk, rfl, rfl, hown, hDl, hcut, hno, hB⟩ := hrel
    have HO := Lib.hid hown
    have HB := Lib.hid hB
    have HC := Lib.hid hcut
    have HNO := Lib.hid hno
    clear hown hB hcut hno
    by_cases hlt : k < l.length
    · have hks : k < (ofL l).size := by omega
      obtain ⟨b, hgb, hcons⟩ : ∃ b, (ofL l)[k] = b ∧ l.drop k = b :: l.drop (k + 1) := ⟨l[k]'hlt, rfl, List.drop_eq_getElem_cons hlt⟩
      have HGB := Lib.hid hgb
      have HCONS := Lib.hid hcons
      clear hgb hcons
      by_cases hb : b = 10
      · have h10 : (((ofL l)[k].toNat : Int) == 10) = true := by rw [HGB.out, hb]; rfl
        have HBB := Lib.hid hb
        clear hb
        go_wp2_with (first
          | (at_builtin; refine wpList_append_own _ rfl _ _ 90 rfl w.heap.size 9 i0 (.string ⟨#[]⟩) 1 16 Tryz.underlying90 hi0 hz0 hz1 hz2 rfl (by decide) _ _ _ rfl (HO.out.alloc _) ⟨wr.heap.size, 0, none⟩ 1 1 [.string ((ofL l).extract j k)] rfl rfl ?c1 ?c2 ?c3 ?c4 ?c5 ?_))
        case c1 =>
          intro q u hq
          match q, hq with
          | 0, hq => simp at hq; subst hq; simp [Addr.add]
        case c2 => intro u hu; simp at hu; subst hu; rfl
        case c3 => unfold maxLen; omega
        case c4 => omega
        case c5 => have := HB.out.size; simp; omega
        · intro v' w1 hown' hgrow _
          have HOW := Lib.hid hown'
          have HBE := Lib.hid (below_own HB.out HO.out _ hgrow)
          clear hown' hgrow
          go_wp2_with fail
          go_roundg (gk - 1)
          case rel =>
            have hc := HCONS.out
            rw [HBB.out] at hc
            have hpc := ln_cut hjk HNO.out hc
            refine ⟨k + 1, k + 1, D ++ [(l.drop j).take (k - j)], by omega, by omega, by go_num, by go_num, ?_, by rw [List.length_append, List.length_singleton]; omega, ?_, by simp, HBE.out⟩
            · have := HOW.out
              rw [HX.out] at this
              rw [List.length_append, List.length_singleton, strs_snoc]
              exact this
            · rw [HC.out, hpc, List.append_assoc]; rfl
          case measure => omega
      · have h10 : (((ofL l)[k].toNat : Int) == 10) = false := by
          rw [HGB.out]
          exact beq_eq_false_iff_ne.2 (fun h => hb (UInt8.toNat_inj.1 (by rw [show (10 : UInt8).toNat = 10 from rfl]; omega)))
        have HBB := Lib.hid hb
        clear hb
        go_wp2_with fail
        go_roundg (gk - 1)
        case rel => exact ⟨k + 1, j, D, by omega, by omega, by go_num, rfl, HO.out, hDl, HC.out, ln_more hjk HNO.out HCONS.out HBB.out, HB.out⟩
        case measure => omega
    · have hkl : k = l.length := by omega
      have hks : ¬ k < (ofL l).size := by omega
      have hjl : j ≤ l.length := by omega
      have hnj := HNO.out
      rw [hkl, List.take_of_length_le (by rw [List.length_drop]; exact Nat.le_refl _)] at hnj
      have HE := Lib.hid (show Pl.lines l = D ++ [l.drop j] by rw [HC.out, Pl.lines_word hnj])
      clear hnj hkl
      go_wp2_with (first
        | (at_builtin; refine wpList_append_own _ rfl _ _ 90 rfl w.heap.size 9 i0 (.string ⟨#[]⟩) 1 16 Tryz.underlying90 hi0 hz0 hz1 hz2 rfl (by decide) _ _ _ rfl (HO.out.alloc _) ⟨wr.heap.size, 0, none⟩ 1 1 [.string ((ofL l).extract j l.length)] rfl rfl ?d1 ?d2 ?d3 ?d4 ?d5 ?_))
      case d1 =>
        intro q u hq
        match q, hq with
        | 0, hq => simp at hq; subst hq; simp [Addr.add]
      case d2 => intro u hu; simp at hu; subst hu; rfl
      case d3 => unfold maxLen; omega
      case d4 => omega
      case d5 => have := HB.out.size; simp; omega
      · intro v' w1 hown' hgrow _
        have HOW := Lib.hid hown'
        have HBE := Lib.hid (below_own HB.out HO.out _ hgrow)
        clear hown' hgrow
        go_wp2_with fail
        go_ret
        refine ⟨_, rfl, ?_, HBE.out⟩
        have := HOW.out
        rw [HXE.out] at this
        rw [HE.out, List.length_append, List.length_singleton, strs_snoc]
        exact this

/-- what the document's loop over a line keeps: the words so far, the word that is being read -/
def WdSt (l : List UInt8) (w : World) (g : Nat) (o c i : Value) (wr : World) : Prop :=
  ∃ (k : Nat) (cur : List UInt8) (D : List (List UInt8)), k + g = l.length ∧ i = .int .i64 (k : Int) ∧ c = .string (ofL cur) ∧ cur.length + D.length ≤ k ∧ wr.ownsRow w.heap.size 9 1 o D.length (strs D) ∧
    Pl.wds l = D ++ Pl.wdsFrom cur (l.drop k) ∧ Below w.heap.size w wr
theorem wd_one (l : List UInt8) (k : Nat) (cur : List UInt8) (h : k < l.length) : ofL cur ++ (ofL l).extract k (k + 1) = ofL (cur ++ [l[k]]) := by
  rw [extract_take, ofL_app, show k + 1 - k = 1 by omega, List.drop_eq_getElem_cons h]
  rfl
set_option maxRecDepth 100000 in
set_option maxHeartbeats 4000000 in
theorem rwords_any (l : List UInt8) (w : World) (hl : l.length ≤ 100000) : Calls Tryz.prog 55 #[.string (ofL l)] w (SplitPost w (Pl.wds l)) := by
  have hsz : (ofL l).size = l.length := ofL_size l
  have HG : Hid (∀ p (h : p < l.length), (ofL l)[p]'(by rw [hsz]; exact h) = l[p]) := fun p h => rfl
  have HW1 := Lib.hid (fun k cur h => wd_one l k cur h)
  obtain ⟨i0, hi0, hz0, hz1, hz2⟩ := info_parts info9
  go_enter Tryz.func55, Tryz.ntmps55
  go_wp2_with fail
  go_loopg [3, 4, 5] l.length (fun g o c i wr => WdSt l w g o c i wr)
  case atStart => exact ⟨0, [], [], by omega, rfl, rfl, by simp, World.ownsRow_nil _ _ _ _, by simp [Pl.wds], Below.refl _ _⟩
  case round =>
    obtain ⟨k, cur, D, hk, rfl, rfl, hDl, hown, hcut, hB⟩ := hrel
    have HO := Lib.hid hown
    have HB := Lib.hid hB
    have HC := Lib.hid hcut
    clear hown hB hcut
    have hcs : (ofL cur).size = cur.length := ofL_size cur
    by_cases hlt : k < l.length
    · have hks : k < (ofL l).size := by omega
      obtain ⟨b, hgb, hcons⟩ : ∃ b, (ofL l)[k] = b ∧ l.drop k = b :: l.drop (k + 1) := ⟨l[k]'hlt, rfl, List.drop_eq_getElem_cons hlt⟩
      have HGB := Lib.hid hgb
      have HCONS := Lib.hid hcons
      clear hgb hcons
      by_cases hb : b = 32
      · have h32 : (((ofL l)[k].toNat : Int) == 32) = true := by rw [HGB.out, hb]; rfl
        have HC2 := Lib.hid (show Pl.wds l = D ++ Pl.wdsFrom cur (32 :: l.drop (k + 1)) by rw [HC.out, HCONS.out, hb])
        clear hb
        by_cases hcur : cur = []
        · subst hcur
          have HC3 := Lib.hid (show Pl.wds l = D ++ Pl.wdsFrom [] (l.drop (k + 1)) by rw [HC2.out, Pl.wds_blank0])
          rw [show ofL ([] : List UInt8) = ⟨#[]⟩ from rfl]
          go_wp2_with fail
          go_roundg (gk - 1)
          case rel => exact ⟨k + 1, [], D, by omega, by go_num, rfl, by simp at hDl ⊢; omega, HO.out, HC3.out, HB.out⟩
          case measure => omega
        · have HC3 := Lib.hid (show Pl.wds l = (D ++ [cur]) ++ Pl.wdsFrom [] (l.drop (k + 1)) by rw [HC2.out, Pl.wds_blank (by cases cur <;> simp_all), List.append_assoc]; rfl)
          have hc1 : 0 < cur.length := List.length_pos_iff.2 hcur
          have hne := str_ne (l := cur) (by omega)
          go_wp2_with (first
            | (at_builtin; refine wpList_append_own _ rfl _ _ 90 rfl w.heap.size 9 i0 (.string ⟨#[]⟩) 1 16 Tryz.underlying90 hi0 hz0 hz1 hz2 rfl (by decide) _ _ _ rfl (HO.out.alloc _) ⟨wr.heap.size, 0, none⟩ 1 1 [.string (ofL cur)] rfl rfl ?c1 ?c2 ?c3 ?c4 ?c5 ?_))
          case c1 =>
            intro q u hq
            match q, hq with
            | 0, hq => simp at hq; subst hq; simp [Addr.add]
          case c2 => intro u hu; simp at hu; subst hu; rfl
          case c3 => unfold maxLen; omega
          case c4 => omega
          case c5 => have := HB.out.size; simp; omega
          intro v' w1 hown' hgrow _
          have HOW := Lib.hid hown'
          have HBE := Lib.hid (below_own HB.out HO.out _ hgrow)
          clear hown' hgrow
          go_wp2_with fail
          go_roundg (gk - 1)
          case rel => exact ⟨k + 1, [], D ++ [cur], by omega, by go_num, rfl, by simp; omega, by rw [List.length_append, List.length_singleton, strs_snoc]; exact HOW.out, HC3.out, HBE.out⟩
          case measure => omega
      · have h32 : (((ofL l)[k].toNat : Int) == 32) = false := by
          rw [HGB.out]
          exact beq_eq_false_iff_ne.2 (fun h => hb (UInt8.toNat_inj.1 (by rw [show (32 : UInt8).toNat = 32 from rfl]; omega)))
        have HC2 := Lib.hid (show Pl.wds l = D ++ Pl.wdsFrom (cur ++ [b]) (l.drop (k + 1)) by rw [HC.out, HCONS.out, Pl.wds_byte cur _ hb])
        have HB2 := Lib.hid (show ofL cur ++ (ofL l).extract k (k + 1) = ofL (cur ++ [b]) by rw [HW1.out k cur hlt]; rw [show l[k] = b from HGB.out])
        clear hb
        have hb1 : (ofL cur).size ≤ 100000 := by omega
        have hb2 : ((ofL l).extract k (k + 1)).size ≤ 100000 := by rw [ByteArray.size_extract]; omega
        go_wp2_with fail
        go_roundg (gk - 1)
        case rel => exact ⟨k + 1, cur ++ [b], D, by omega, by go_num, by rw [← HB2.out], by simp; omega, HO.out, HC2.out, HB.out⟩
        case measure => omega
    · have hkl : k = l.length := by omega
      have hks : ¬ k < (ofL l).size := by omega
      have HC2 := Lib.hid (show Pl.wds l = D ++ Pl.wdsFrom cur [] by rw [HC.out, hkl, List.drop_length])
      clear hkl
      by_cases hcur : cur = []
      · subst hcur
        have HC3 := Lib.hid (show Pl.wds l = D by rw [HC2.out]; exact List.append_nil D)
        rw [show ofL ([] : List UInt8) = ⟨#[]⟩ from rfl]
        go_wp2_with fail
        go_ret
        exact ⟨_, rfl, by rw [HC3.out]; exact HO.out, HB.out⟩
      · have HC3 := Lib.hid (show Pl.wds l = D ++ [cur] by
          rw [HC2.out]
          unfold Pl.wdsFrom
          rw [if_neg (by cases cur <;> simp_all)])
        have hc1 : 0 < cur.length := List.length_pos_iff.2 hcur
        have hne := str_ne (l := cur) (by omega)
        go_wp2_with (first
          | (at_builtin; refine wpList_append_own _ rfl _ _ 90 rfl w.heap.size 9 i0 (.string ⟨#[]⟩) 1 16 Tryz.underlying90 hi0 hz0 hz1 hz2 rfl (by decide) _ _ _ rfl (HO.out.alloc _) ⟨wr.heap.size, 0, none⟩ 1 1 [.string (ofL cur)] rfl rfl ?d1 ?d2 ?d3 ?d4 ?d5 ?_))
        case d1 =>
          intro q u hq
          match q, hq with
          | 0, hq => simp at hq; subst hq; simp [Addr.add]
        case d2 => intro u hu; simp at hu; subst hu; rfl
        case d3 => unfold maxLen; omega
        case d4 => omega
        case d5 => have := HB.out.size; simp; omega
        intro v' w1 hown' hgrow _
        have HOW := Lib.hid hown'
        have HBE := Lib.hid (below_own HB.out HO.out _ hgrow)
        clear hown' hgrow
        go_wp2_with fail
        go_ret
        exact ⟨_, rfl, by rw [HC3.out, List.length_append, List.length_singleton, strs_snoc]; exact HOW.out, HBE.out⟩
end Go.Proofs.YtokljdaofjgihaaGreatDoor
namespace Go.Proofs.YtokljdaofjgihaaGreatDoor
open Go.ChangeShapes Go.WideShapes Go.ChangeAt Go.RowKit

def nmq (s : List UInt8) (x : Pl.Plc) : Bool := x.name == s
theorem find_nmq (l : List Pl.Plc) (s : List UInt8) : Pl.find l s = idx (nmq s) l := rfl
def RF (q : Pl.Plc → Bool) (l : List Pl.Plc) (w : World) (g : Nat) (i : Value) (wr : World) : Prop :=
  ∃ k : Nat, k + g = l.length ∧ i = .int .i64 (k : Int) ∧ (∀ j, j < k → q (l.getD j Pl.Plc.zero) = false) ∧ Below w.heap.size w wr
set_option maxRecDepth 100000 in
set_option maxHeartbeats 4000000 in
theorem rfind_any (p : Pl.Pol) (pa : Option Addr) (pc : Nat) (sa : Option Addr) (sc : Nat) (ga : Option Addr) (gc : Nat) (s : List UInt8) (w : World) (hl : p.places.length ≤ 100000) (_hs : s.length ≤ 100000) (hp : Plcs w pa p.places) :
    Calls Tryz.prog 16 #[polV p pa pc sa sc ga gc, .string (ofL s)] w fun e w' => e = .returned (.int .i64 (Pl.find p.places s)) ∧ Below w.heap.size w w' := by
  rw [find_nmq]
  have HP := Lib.hid hp
  have HNONE := Lib.hid (fun h => idx_none (q := nmq s) (l := p.places) Pl.Plc.zero h)
  have HSOME := Lib.hid (fun k (hk : k < p.places.length) h hq => idx_some (q := nmq s) (l := p.places) Pl.Plc.zero hk h hq)
  clear hp
  generalize idx (nmq s) p.places = M at *
  obtain ⟨wk, gv, l, sl, gr⟩ := p
  simp only [polV] at *
  try simp only at HP HNONE HSOME
  have HB0 := Lib.hid (show Below w.heap.size w (w.alloc (.cells #[.int .i64 wk, .int .i64 gv, .slice pa l.length pc, .slice sa sl.length sc, .slice ga gr.length gc] 32)) from (Below.refl _ _).alloc (Nat.le_refl _) _)
  obtain ⟨q, hq⟩ : ∃ q, q = nmq s := ⟨_, rfl⟩
  rw [← hq] at HNONE HSOME
  have HQ := Lib.hid hq
  clear hq
  have hss : (ofL s).size = s.length := ofL_size s
  go_enter Tryz.func16, Tryz.ntmps16
  go_wp2_with fail
  go_loopg [10] l.length (fun g i wr => RF q l w g i wr)
  case atStart => exact ⟨0, by omega, rfl, fun j hj => absurd hj (by omega), HB0.out⟩
  case round =>
    obtain ⟨k, hk, rfl, hno, hB⟩ := hrel
    have HB := Lib.hid hB
    have HNO := Lib.hid hno
    have HK := Lib.hid hk
    clear hB hno hk
    by_cases hlt : k < l.length
    · obtain ⟨b, off, rfl, hbl, -, hat⟩ := (HP.out.on HB.out).at_ k hlt
      obtain ⟨c0, c1, c2, c3, c4⟩ := hat
      have HYES : Hid (q (Pl.plc l k) = true → M = (k : Int)) := fun h => HSOME.out k hlt HNO.out h
      have HNX : Hid (q (Pl.plc l k) = false → ∀ j, j < k + 1 → q (l.getD j Pl.Plc.zero) = false) := fun h j hj => by
        by_cases e : j = k
        · rw [e]; exact h
        · exact HNO.out j (by omega)
      have HQQ := Lib.hid (show q (Pl.plc l k) = ((Pl.plc l k).name == s) by rw [HQ.out]; rfl)
      generalize Pl.plc l k = x at *
      obtain ⟨xn, xl, xs, xb, xa⟩ := x
      try simp only at c0 c1 c2 c3 c4 HQQ
      have HAL := Lib.hid (bthen HB.out (show Below wr.heap.size wr (wr.alloc (.cells #[.string (ofL xn), .int .u8 (xl : Int), .int .u32 (xs : Int), .int .i64 xb, .int .u64 (xa : Int)] 73)) from (Below.refl _ _).alloc (Nat.le_refl _) _) (Nat.le_refl _))
      have E1 : ((ofL xn).toList == (ofL s).toList) = (xn == s) := by rw [ofL_str, ofL_str]
      cases h1 : xn == s with
      | true =>
        rw [h1] at E1
        have HM := Lib.hid (HYES.out (by rw [HQQ.out, h1]))
        clear h1
        go_wp2_with fail
        go_ret
        exact ⟨ret_nat HM.out.symm, HAL.out⟩
      | false =>
        have HN := Lib.hid (HNX.out (by rw [HQQ.out, h1]))
        rw [h1] at E1
        clear h1
        go_wp2_with fail
        go_roundg (gk - 1)
        case rel => exact ⟨k + 1, by have := HK.out; omega, by go_num, HN.out, HAL.out⟩
        case measure => have := HK.out; omega
    · have HM := Lib.hid (HNONE.out (fun i hi => HNO.out i (by have := HK.out; omega)))
      go_wp2_with fail
      go_ret
      exact ⟨by rw [HM.out]; rfl, HB.out⟩
theorem guardP : Tryz.prog.eqGuardType Tryz.prog.depth 73 = false := by kernel_rfl
theorem stoodP : Tryz.prog.stoodInHeld 73 = false := by kernel_rfl
theorem fieldsP : Tryz.prog.fieldsOf 73 = #[⟨"Name", 9, 0, false, "", "", 0⟩, ⟨"Label", 70, 1, false, "", "", 16⟩, ⟨"Bytes", 3, 3, false, "", "", 24⟩, ⟨"Base", 54, 4, false, "", "", 32⟩] := by kernel_rfl
theorem guardN : Tryz.prog.eqGuardType Tryz.prog.depth 76 = false := by kernel_rfl
theorem stoodN : Tryz.prog.stoodInHeld 76 = false := by kernel_rfl
theorem fieldsN : Tryz.prog.fieldsOf 76 = #[⟨"From", 3, 0, false, "", "", 0⟩, ⟨"To", 3, 1, false, "", "", 8⟩, ⟨"Budget", 3, 2, false, "", "", 16⟩] := by kernel_rfl
theorem plc_self (n : ByteArray) (l s b a : Int) (W : World) : (Op.equalIn 10000 73 (.agg #[.string n, .int .u8 l, .int .u32 s, .int .i64 b, .int .u64 a]) (.agg #[.string n, .int .u8 l, .int .u32 s, .int .i64 b, .int .u64 a])).run Tryz.prog W = .ok true W := by
  rw [run_equalIn_agg (ht := by kernel_rfl) (hp := stoodP), fieldsP]
  simp [Op.eqFields, go_sem, Tryz.underlying9, Tryz.underlying70, Tryz.underlying3, Tryz.underlying54]
theorem grn_self (f t b : Int) (W : World) : (Op.equalIn 10000 76 (.agg #[.int .i64 f, .int .i64 t, .int .i64 b]) (.agg #[.int .i64 f, .int .i64 t, .int .i64 b])).run Tryz.prog W = .ok true W := by
  rw [run_equalIn_agg (ht := by kernel_rfl) (hp := stoodN), fieldsN]
  simp [Op.eqFields, go_sem, Tryz.underlying3]
attribute [local go_sem ↓] plc_self grn_self
attribute [local go_sem] guardP guardN
/-- two policies of a law's, while they are gone through -/
structure SmIn (w : World) (p : Pl.Pol) (pa : Option Addr) (pc : Nat) (sa : Option Addr) (sc : Nat) (ga : Option Addr) (gc : Nat) (pa' : Option Addr) (pc' : Nat) (sa' : Option Addr) (sc' : Nat) (ga' : Option Addr) (gc' : Nat) (W : World) : Prop where
  b0 : Cell5 W w.heap.size (.int .i64 p.work) (.int .i64 p.give) (.slice pa p.places.length pc) (.slice sa p.slots.length sc) (.slice ga p.grants.length gc)
  b1 : Cell5 W (w.heap.size + 1) (.int .i64 p.work) (.int .i64 p.give) (.slice pa' p.places.length pc') (.slice sa' p.slots.length sc') (.slice ga' p.grants.length gc')
  i0 : PolIs W p pa pc sa sc ga gc
  i1 : PolIs W p pa' pc' sa' sc' ga' gc'
  below : Below w.heap.size w W
theorem SmIn.on {w : World} {p : Pl.Pol} {pa : Option Addr} {pc : Nat} {sa : Option Addr} {sc : Nat} {ga : Option Addr} {gc : Nat} {pa' : Option Addr} {pc' : Nat} {sa' : Option Addr} {sc' : Nat} {ga' : Option Addr} {gc' : Nat} {W W' : World}
    (h : SmIn w p pa pc sa sc ga gc pa' pc' sa' sc' ga' gc' W) (hb : Below W.heap.size W W') : SmIn w p pa pc sa sc ga gc pa' pc' sa' sc' ga' gc' W' :=
  ⟨h.b0.on hb, h.b1.on hb, h.i0.on hb, h.i1.on hb, h.below.trans (hb.mono h.below.size)⟩
theorem drewN_on (W : World) (n : Nat) : Below W.heap.size W (W.drewN n) := drewN_below (Below.refl _ _) n
set_option maxRecDepth 100000 in
set_option maxHeartbeats 8000000 in
theorem rsame_any (p : Pl.Pol) (pa : Option Addr) (pc : Nat) (sa : Option Addr) (sc : Nat) (ga : Option Addr) (gc : Nat) (pa' : Option Addr) (pc' : Nat) (sa' : Option Addr) (sc' : Nat) (ga' : Option Addr) (gc' : Nat) (w : World) (h0 : PolIs w p pa pc sa sc ga gc) (h1 : PolIs w p pa' pc' sa' sc' ga' gc') :
    Calls Tryz.prog 19 #[polV p pa pc sa sc ga gc, polV p pa' pc' sa' sc' ga' gc'] w fun e w' => e = .returned (.bool true) ∧ Below w.heap.size w w' := by
  have hal : Below w.heap.size w ((w.alloc (.cells #[.int .i64 p.work, .int .i64 p.give, .slice pa p.places.length pc, .slice sa p.slots.length sc, .slice ga p.grants.length gc] 32)).alloc (.cells #[.int .i64 p.work, .int .i64 p.give, .slice pa' p.places.length pc', .slice sa' p.slots.length sc', .slice ga' p.grants.length gc'] 32)) := ((Below.refl _ _).alloc (Nat.le_refl _) _).alloc (by simp) _
  have HX := Lib.hid (show SmIn w p pa pc sa sc ga gc pa' pc' sa' sc' ga' gc' _ from ⟨(Cell5.new w (.int .i64 p.work) (.int .i64 p.give) (.slice pa p.places.length pc) (.slice sa p.slots.length sc) (.slice ga p.grants.length gc) 32).on ((Below.refl _ _).alloc (Nat.le_refl _) _), by
    have := Cell5.new (w.alloc (.cells #[.int .i64 p.work, .int .i64 p.give, .slice pa p.places.length pc, .slice sa p.slots.length sc, .slice ga p.grants.length gc] 32)) (.int .i64 p.work) (.int .i64 p.give) (.slice pa' p.places.length pc') (.slice sa' p.slots.length sc') (.slice ga' p.grants.length gc') 32
    rwa [World.size_alloc] at this, h0.on hal, h1.on hal, hal⟩)
  have n1 := h0.npl
  have n2 := h0.nsl
  have n3 := h0.ngr
  simp only [polV]
  clear h0 h1 hal
  obtain ⟨⟨c0, c1, c2, c3, c4⟩, ⟨d0, d1, d2, d3, d4⟩, -, -, -⟩ := HX.out
  go_enter Tryz.func19, Tryz.ntmps19
  go_wp2_with fail
  generalize (w.alloc (.cells #[.int .i64 p.work, .int .i64 p.give, .slice pa p.places.length pc, .slice sa p.slots.length sc, .slice ga p.grants.length gc] 32)).alloc (.cells #[.int .i64 p.work, .int .i64 p.give, .slice pa' p.places.length pc', .slice sa' p.slots.length sc', .slice ga' p.grants.length gc'] 32) = W0 at *
  clear c0 c1 c2 c3 c4 d0 d1 d2 d3 d4
  go_loopg [50] p.places.length (fun g i wr => (∃ k : Nat, k + g = p.places.length ∧ i = .int .i64 (k : Int)) ∧ SmIn w p pa pc sa sc ga gc pa' pc' sa' sc' ga' gc' wr)
  case atStart => exact ⟨⟨0, by omega, rfl⟩, HX.out⟩
  case round =>
    obtain ⟨⟨k, hk, rfl⟩, hX⟩ := hrel
    have HK := Lib.hid hk
    have HXk := Lib.hid hX
    obtain ⟨⟨c0, c1, c2, c3, c4⟩, ⟨d0, d1, d2, d3, d4⟩, -, -, -⟩ := hX
    clear hk
    by_cases hlt : k < p.places.length
    · obtain ⟨b, o, ha, hb, -, hat⟩ := HXk.out.i0.pl.at_ k hlt
      obtain ⟨b', o', ha', hb', -, hat'⟩ := HXk.out.i1.pl.at_ k hlt
      subst ha ha'
      obtain ⟨x0, x1, x2, x3, x4⟩ := hat
      obtain ⟨y0, y1, y2, y3, y4⟩ := hat'
      generalize Pl.plc p.places k = x at *
      go_wp2_with fail
      go_quiet (fail)
      go_wp2_with fail
      go_roundg (gk - 1)
      case rel => exact ⟨⟨k + 1, by have := HK.out; omega, by go_num⟩, HXk.out.on (drewN_on _ _)⟩
      case measure => have := HK.out; omega
    · go_wp2_with fail
      clear c0 c1 c2 c3 c4 d0 d1 d2 d3 d4
      go_loopg [68] p.slots.length (fun g i wr => (∃ k : Nat, k + g = p.slots.length ∧ i = .int .i64 (k : Int)) ∧ SmIn w p pa pc sa sc ga gc pa' pc' sa' sc' ga' gc' wr)
      case atStart => exact ⟨⟨0, by omega, rfl⟩, HXk.out⟩
      case round =>
        clear HXk HK
        obtain ⟨⟨k, hk, rfl⟩, hX⟩ := hrel
        have HK := Lib.hid hk
        have HXk := Lib.hid hX
        obtain ⟨⟨c0, c1, c2, c3, c4⟩, ⟨d0, d1, d2, d3, d4⟩, -, -, -⟩ := hX
        clear hk
        by_cases hlt : k < p.slots.length
        · obtain ⟨b, o, ha, hb, hat⟩ := HXk.out.i0.sl.at_ k hlt
          obtain ⟨b', o', ha', hb', hat'⟩ := HXk.out.i1.sl.at_ k hlt
          subst ha ha'
          generalize p.slots.getD k 0 = x at *
          go_wp2_with fail
          go_quiet (fail)
          go_wp2_with fail
          go_roundg (gk - 1)
          case rel => exact ⟨⟨k + 1, by have := HK.out; omega, by go_num⟩, HXk.out.on (drewN_on _ _)⟩
          case measure => have := HK.out; omega
        · go_wp2_with fail
          clear c0 c1 c2 c3 c4 d0 d1 d2 d3 d4
          go_loopg [86] p.grants.length (fun g i wr => (∃ k : Nat, k + g = p.grants.length ∧ i = .int .i64 (k : Int)) ∧ SmIn w p pa pc sa sc ga gc pa' pc' sa' sc' ga' gc' wr)
          case atStart => exact ⟨⟨0, by omega, rfl⟩, HXk.out⟩
          case round =>
            clear HXk HK
            obtain ⟨⟨k, hk, rfl⟩, hX⟩ := hrel
            have HK := Lib.hid hk
            have HXk := Lib.hid hX
            obtain ⟨⟨c0, c1, c2, c3, c4⟩, ⟨d0, d1, d2, d3, d4⟩, -, -, -⟩ := hX
            clear hk
            by_cases hlt : k < p.grants.length
            · obtain ⟨b, o, ha, hb, hat⟩ := HXk.out.i0.gr.at_ k hlt
              obtain ⟨b', o', ha', hb', hat'⟩ := HXk.out.i1.gr.at_ k hlt
              subst ha ha'
              obtain ⟨x0, x1, x2⟩ := hat
              obtain ⟨y0, y1, y2⟩ := hat'
              generalize Pl.grn p.grants k = x at *
              go_wp2_with fail
              go_quiet (fail)
              go_wp2_with fail
              go_roundg (gk - 1)
              case rel => exact ⟨⟨k + 1, by have := HK.out; omega, by go_num⟩, HXk.out.on (drewN_on _ _)⟩
              case measure => have := HK.out; omega
            · go_wp2_with fail
              go_ret
              exact ⟨rfl, HXk.out.below⟩
end Go.Proofs.YtokljdaofjgihaaGreatDoor
