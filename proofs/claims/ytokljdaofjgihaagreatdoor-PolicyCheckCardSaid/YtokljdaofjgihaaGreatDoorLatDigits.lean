/-
  WHICH STANDS UNDER WHICH; a compartment of a set; the digits at the front of a text: walked.
-/
import Derived.Test.YtokljdaofjgihaaGreatDoorOct
import Derived.Test.YtokljdaofjgihaaGreatDoorLatMath
import Derived.WalkMore
import Derived.Deep.LoopGhost
namespace Go.Proofs.YtokljdaofjgihaaGreatDoor
open Go.ChangeShapes Go.WideShapes Go.ChangeAt Go.RowKit

theorem ret_two {a b c d : Value} (h1 : a = c) (h2 : b = d) : Ending.returned (.tuple #[a, b]) = .returned (.tuple #[c, d]) := by rw [h1, h2]
theorem under_bool (al sa bl sb : Nat) (h1 : sa < 4294967296) (h2 : sb < 4294967296) (h : al ≤ bl) : (bits .andNot .u32 (sa : Int) (sb : Int) == 0) = Lat.under al sa bl sb := by
  have e : Lat.under al sa bl sb = Lat.sub sa sb := by unfold Lat.under; rw [decide_eq_true h, Bool.true_and]
  rw [e, u32_andNot_nat sa sb h1 h2, Bool.eq_iff_iff, ← Lat.sub_andNot h1 h2, beq_iff_eq]
  omega
theorem under_high (al sa bl sb : Nat) (h : ¬ al ≤ bl) : false = Lat.under al sa bl sb := by unfold Lat.under; rw [decide_eq_false h, Bool.false_and]
theorem under_any (al sa bl sb : Nat) (w : World) (h1 : sa < 4294967296) (h2 : sb < 4294967296) :
    Calls Tryz.prog 85 #[.agg #[.int .u8 (al : Int), .int .u32 (sa : Int)], .agg #[.int .u8 (bl : Int), .int .u32 (sb : Int)]] w fun e w' => e = .returned (.bool (Lat.under al sa bl sb)) ∧ Below w.heap.size w w' := by
  by_cases h : al ≤ bl
  · have H := Lib.hid (under_bool al sa bl sb h1 h2 h)
    go_enter Tryz.func85, Tryz.ntmps85
    go_wp2
    go_ret
    exact ⟨ret_bool H.out, ((Below.refl _ _).alloc (Nat.le_refl _) _).alloc (by simp) _⟩
  · have H := Lib.hid (under_high al sa bl sb h)
    go_enter Tryz.func85, Tryz.ntmps85
    go_wp2
    go_ret
    exact ⟨ret_bool H.out, ((Below.refl _ _).alloc (Nat.le_refl _) _).alloc (by simp) _⟩
theorem has_bool (sa i : Nat) : ((((sa : Int) / 2 ^ i).tmod 2) == 1) = sa.testBit i := by
  have e : ((sa : Int) / 2 ^ i).tmod 2 = ((sa / 2 ^ i % 2 : Nat) : Int) := by
    have e1 : (sa : Int) / 2 ^ i = ((sa / 2 ^ i : Nat) : Int) := by rw [Int.natCast_ediv, Int.natCast_pow]; rfl
    rw [e1, Int.tmod_eq_emod_of_nonneg (Int.natCast_nonneg _)]; omega
  rw [e, Nat.testBit_eq_decide_div_mod_eq, Bool.eq_iff_iff, beq_iff_eq, decide_eq_true_eq]
  omega
theorem has_any (al sa i : Nat) (w : World) (h2 : i < 32) :
    Calls Tryz.prog 67 #[.agg #[.int .u8 (al : Int), .int .u32 (sa : Int)], .int .i64 (i : Int)] w fun e w' => e = .returned (.bool (sa.testBit i)) ∧ Below w.heap.size w w' := by
  have H := Lib.hid (has_bool sa i)
  go_enter Tryz.func67, Tryz.ntmps67
  go_wp2
  go_ret
  exact ⟨ret_bool H.out, (Below.refl _ _).alloc (Nat.le_refl _) _⟩
set_option maxHeartbeats 1000000 in
theorem digits_any (s : ByteArray) (w : World) (hs : s.size ≤ 9223372036854775807) :
    Calls Tryz.prog 130 #[.string s] w fun e w' => e = .returned (.tuple #[.int .i64 ((min (Lat.val (Lat.digs s.data.toList)) 99 : Nat) : Int), .int .i64 ((Lat.digs s.data.toList).length : Int)]) ∧ w = w' := by
  have hD : (Lat.digs s.data.toList).length ≤ s.size := Lat.digs_le s.data.toList
  have HV := Lib.hid (congrArg Lat.val (Lat.take_digs s.data.toList))
  have HN := Lib.hid (Lat.dig_not s.data.toList)
  have HA := Lib.hid (Lat.dig_at s.data.toList)
  generalize (Lat.digs s.data.toList).length = D at *
  generalize Lat.val (Lat.digs s.data.toList) = V at *
  go_enter Tryz.func130, Tryz.ntmps130
  go_wp2
  go_step3
  go_wp2
  go_step3
  go_wp2
  go_loopg [4, 5, 10] D (fun g n c i wr => ∃ k : Nat, k + g = D ∧ i = .int .i64 k ∧ c = .int .i64 k ∧ n = .int .i64 ((min (Lat.val (s.data.toList.take k)) 99 : Nat) : Int) ∧ wr = w)
  case atStart => exact ⟨0, by omega, rfl, rfl, rfl, rfl⟩
  case round =>
    obtain ⟨k, hk, rfl, rfl, rfl, rfl⟩ := hrel
    by_cases hlt : k < D
    · have hks : k < s.size := by omega
      have hd := HA.out k hks hlt
      have hb1 : 48 ≤ s[k].toNat ∧ s[k].toNat ≤ 57 := by
        have : Lat.dig s[k] = true := hd
        unfold Lat.dig at this
        simpa using this
      obtain ⟨hb1, hb2⟩ := hb1
      have hn : (min (Lat.val (s.data.toList.take (k + 1))) 99 : Nat) = min (10 * min (Lat.val (s.data.toList.take k)) 99 + (s[k].toNat - 48)) 99 := by
        have : s.data.toList.take (k + 1) = s.data.toList.take k ++ [s[k]] := take_snoc s k hks
        rw [this, Lat.val_snoc]; omega
      have HX := Lib.hid hn
      clear hn hd
      have hX : min (Lat.val (s.data.toList.take k)) 99 ≤ 99 := Nat.min_le_right _ _
      generalize min (Lat.val (s.data.toList.take k)) 99 = X at *
      go_wp2
      all_goals
        go_roundg (gk - 1)
        case rel => exact ⟨k + 1, by omega, by go_num, by go_num, by rw [HX.out]; go_num, rfl⟩
        case measure => omega
    · obtain rfl : k = D := by omega
      have HV2 := Lib.hid (show Lat.val (s.data.toList.take k) = V from HV.out)
      by_cases hks : k < s.size
      · have hd : Lat.dig s[k] = false := HN.out hks
        have hb : ¬ (48 ≤ s[k].toNat ∧ s[k].toNat ≤ 57) := by
          unfold Lat.dig at hd
          intro h
          simp [h.1, h.2] at hd
        clear hd
        by_cases h48 : 48 ≤ s[k].toNat
        · have h57 : ¬ s[k].toNat ≤ 57 := fun h => hb ⟨h48, h⟩
          clear hb
          go_wp2
          try rw [Exit.noGoto_ret]
          go_ret2
          exact ⟨ret_two (by rw [HV2.out]; rfl) rfl, rfl⟩
        · clear hb
          go_wp2
          try rw [Exit.noGoto_ret]
          go_ret2
          exact ⟨ret_two (by rw [HV2.out]; rfl) rfl, rfl⟩
      · go_wp2
        try rw [Exit.noGoto_ret]
        go_ret2
        exact ⟨ret_two (by rw [HV2.out]; rfl) rfl, rfl⟩
end Go.Proofs.YtokljdaofjgihaaGreatDoor
