/-
  THE DOCUMENT's OWN NUMBERS AND TEXTS, walked.
-/
import Derived.Test.YtabnkbdbbneihaaOct
namespace Go.Proofs.Ytabnkbdbbneihaa
open Go.ChangeShapes Go.WideShapes Go.ChangeAt Go.RowKit
attribute [local go_sem ↓] Go.wp_at_zero Go.wp_at_succ
theorem conv_one (n : Nat) (W : World) (g cap : Nat) (h : W.cell? ⟨g, 0, none⟩ = some (.int .u8 ((n : Int) % 256))) :
    (convert 80 9 (.slice (some ⟨g, 0, none⟩) 1 cap)).run Try.prog W = .ok (.string ⟨#[UInt8.ofNat (n % 256)]⟩) W := by
  have hb := run_convert_bytes_back (P := Try.prog) W 80 9 5 ⟨g, 0, none⟩ cap [UInt8.ofNat (n % 256)] Try.underlying80 Try.underlying5 Try.underlying9 (fun j hj => by
    have : j = 0 := by simpa using hj
    subst this
    have ea : (⟨g, 0, none⟩ : Addr).add 0 = ⟨g, 0, none⟩ := rfl
    rw [ea, h]
    simp [UInt8.toNat_ofNat'])
  exact hb

theorem wrap_div (n : Nat) (hn : n < 18446744073709551616) : IntKind.u64.wrap ((n : Int) / 256) = (n : Int) / 256 := by
  simp only [IntKind.wrap, IntKind.bits, IntKind.signed]
  simp
  omega
theorem be_snoc (k n : Nat) : (ByteArray.mk (Oct.be k (n / 256)).toArray) ++ (ByteArray.mk #[UInt8.ofNat (n % 256)]) = ByteArray.mk (Oct.be (k + 1) n).toArray := by
  apply ByteArray.ext
  simp [Oct.be]
set_option maxHeartbeats 1000000 in
theorem rnum_at (k : Nat) : k ≤ 8 → ∀ (n : Nat) (w : World), n < 18446744073709551616 → Calls Try.prog 33 #[.int .u64 (n : Int), .int .i64 (k : Int)] w fun x w' => x = .returned (.string ⟨(Oct.be k n).toArray⟩) ∧ Below w.heap.size w w' := by
  induction k with
  | zero =>
    intro _ n w _
    go_enter Try.func33, Try.ntmps33
    go_wp2_with fail
    go_ret
    exact ⟨rfl, Below.refl _ _⟩
  | succ k ih =>
    intro hk n w hn
    have ih' : ∀ N b : Int, N = ((n / 256 : Nat) : Int) → b = (k : Int) → ∀ w : World, Calls Try.prog 33 #[.int .u64 N, .int .i64 b] w fun x w' => x = .returned (.string ⟨(Oct.be k (n / 256)).toArray⟩) ∧ Below w.heap.size w w' := by
      rintro N b rfl rfl w
      exact ih (by omega) (n / 256) w (by omega)
    have hr : (ByteArray.mk (Oct.be k (n / 256)).toArray).size ≤ 8 := by
      show (Oct.be k (n / 256)).toArray.size ≤ 8
      rw [List.size_toArray, Oct.length_be]; omega
    generalize hre : ByteArray.mk (Oct.be k (n / 256)).toArray = r at ih' hr
    have HRE := Lib.hid hre
    clear hre
    have IH := Lib.hid ih'
    clear ih ih'
    have hw1 : IntKind.i64.wrap (k : Int) = (k : Int) := by rw [IntKind.wrap_i64]; omega
    have hw2 : IntKind.u64.wrap ((n : Int) / 256) = (n : Int) / 256 := wrap_div n hn
    have hw3 : (n : Int).tmod 256 = (n : Int) % 256 := Int.tmod_eq_emod_of_nonneg (by omega)
    have hw4 : IntKind.u8.wrap ((n : Int) % 256) = (n : Int) % 256 := by rw [IntKind.wrap_u8']; omega
    clear hn
    have hcv := conv_one n
    have hd : ((n / 256 : Nat) : Int) = (n : Int) / 256 := by omega
    have HD := Lib.hid hd
    clear hd
    go_enter Try.func33, Try.ntmps33
    go_wp2_with fail
    go_region_with (first | (go_at_call 33; refine (IH.out _ _ (by omega) (by omega) _).mono ?_; rintro e' w2 ⟨rfl, hb2⟩; have kc := fun h => hb2.cell (p := ⟨w.heap.size, 0, none⟩) h))
    all_goals
      go_wp2
      go_ret
      refine ⟨ret_str (by rw [← HRE.out]; exact be_snoc k n), ?_⟩
      first
        | exact (Below.trans (Below.refl _ _).drew (hb2.mono (by simp))).alloc hb2.size _
        | exact Below.trans (((Below.refl _ _).alloc (Nat.le_refl _) _).drew) (hb2.mono (by simp))

set_option maxHeartbeats 1000000 in
theorem rnum_high (b : Int) (n : Nat) (w : World) (hn : n < 18446744073709551616) (hb : 8 < b) :
    Calls Try.prog 33 #[.int .u64 (n : Int), .int .i64 b] w fun x w' => x = .returned (.string ⟨(Oct.be 8 n).toArray⟩) ∧ Below w.heap.size w w' := by
  have ih' : ∀ N b : Int, N = ((n / 256 : Nat) : Int) → b = 7 → ∀ w : World, Calls Try.prog 33 #[.int .u64 N, .int .i64 b] w fun x w' => x = .returned (.string ⟨(Oct.be 7 (n / 256)).toArray⟩) ∧ Below w.heap.size w w' := by
    rintro N b rfl rfl w
    exact rnum_at 7 (by omega) (n / 256) w (by omega)
  have hr : (ByteArray.mk (Oct.be 7 (n / 256)).toArray).size ≤ 8 := by
    show (Oct.be 7 (n / 256)).toArray.size ≤ 8
    rw [List.size_toArray, Oct.length_be]; omega
  generalize hre : ByteArray.mk (Oct.be 7 (n / 256)).toArray = r at ih' hr
  have HRE := Lib.hid hre
  clear hre
  have IH := Lib.hid ih'
  clear ih'
  have hw1 : IntKind.i64.wrap 7 = 7 := by rw [IntKind.wrap_i64]; omega
  have hw2 : IntKind.u64.wrap ((n : Int) / 256) = (n : Int) / 256 := wrap_div n hn
  have hw3 : (n : Int).tmod 256 = (n : Int) % 256 := Int.tmod_eq_emod_of_nonneg (by omega)
  have hw4 : IntKind.u8.wrap ((n : Int) % 256) = (n : Int) % 256 := by rw [IntKind.wrap_u8']; omega
  clear hn
  have hcv := conv_one n
  have hd : ((n / 256 : Nat) : Int) = (n : Int) / 256 := by omega
  have HD := Lib.hid hd
  clear hd
  go_enter Try.func33, Try.ntmps33
  go_wp2_with fail
  go_region_with (first | (go_at_call 33; refine (IH.out _ _ (by omega) (by omega) _).mono ?_; rintro e' w2 ⟨rfl, hb2⟩; have kc := fun h => hb2.cell (p := ⟨w.heap.size, 0, none⟩) h))
  all_goals
    go_wp2
    go_ret
    refine ⟨ret_str (by rw [← HRE.out]; exact be_snoc 7 n), ?_⟩
    first
      | exact (Below.trans (Below.refl _ _).drew (hb2.mono (by simp))).alloc hb2.size _
      | exact Below.trans (((Below.refl _ _).alloc (Nat.le_refl _) _).drew) (hb2.mono (by simp))

set_option maxHeartbeats 1000000 in
theorem rnum_any (b : Int) (n : Nat) (w : World) (hn : n < 18446744073709551616) :
    Calls Try.prog 33 #[.int .u64 (n : Int), .int .i64 b] w fun x w' => x = .returned (.string ⟨(Oct.be (Oct.width b) n).toArray⟩) ∧ Below w.heap.size w w' := by
  by_cases h0 : b ≤ 0
  · rw [Oct.width_low h0]
    have h8 : ¬ 8 < b := by omega
    go_enter Try.func33, Try.ntmps33
    go_wp2_with fail
    go_ret
    exact ⟨rfl, Below.refl _ _⟩
  · by_cases h8 : b ≤ 8
    · have e : ((b.toNat : Nat) : Int) = b := by omega
      have h := rnum_at b.toNat (by omega) n w hn
      rw [e] at h
      have hw : Oct.width b = b.toNat := by rw [← e, Oct.width_num _ (by omega)]; omega
      rw [hw]
      exact h
    · rw [Oct.width_high (by omega)]
      exact rnum_high b n w hn (by omega)
set_option maxHeartbeats 1000000 in
theorem rtext_any (s : ByteArray) (w : World) (hs : s.size ≤ 65535) :
    Calls Try.prog 34 #[.string s] w fun x w' => x = .returned (.string (textB s)) ∧ Below w.heap.size w w' := by
  have hc : ∀ w : World, Calls Try.prog 33 #[.int .u64 (s.size : Int), .int .i64 2] w fun x w' => x = .returned (.string ⟨(Oct.be 2 s.size).toArray⟩) ∧ Below w.heap.size w w' := fun w => by
    have := rnum_any 2 s.size w (by omega)
    rw [show Oct.width 2 = 2 from rfl] at this
    exact this
  have hz := be_size 2 s.size
  have HT : Hid (textB s = ⟨(Oct.be 2 s.size).toArray⟩ ++ s) := rfl
  generalize ByteArray.mk (Oct.be 2 s.size).toArray = r at hc hz HT
  have hz2 : r.size ≤ 2 := by omega
  have HC := Lib.hid hc
  clear hc hz
  go_enter Try.func34, Try.ntmps34
  go_wp2_with (go_at_call 33; refine (HC.out _).mono ?_; rintro e w1 ⟨rfl, hb1⟩)
  go_ret
  exact ⟨ret_str (by rw [HT.out]), hb1⟩

end Go.Proofs.Ytabnkbdbbneihaa
