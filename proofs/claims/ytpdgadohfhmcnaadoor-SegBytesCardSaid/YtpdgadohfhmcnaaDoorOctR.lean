/-
  THE DOCUMENT's OWN NUMBERS AND TEXTS, walked.
-/
import Derived.Test.YtpdgadohfhmcnaaDoorOct
namespace Go.Proofs.YtpdgadohfhmcnaaDoor
open Go.ChangeShapes Go.WideShapes Go.ChangeAt Go.RowKit
attribute [local go_sem ↓] Go.wp_at_zero Go.wp_at_succ
theorem conv_one (n : Nat) (W : World) (g cap : Nat) (h : W.cell? ⟨g, 0, none⟩ = some (.int .u8 ((n : Int) % 256))) :
    (convert 43 9 (.slice (some ⟨g, 0, none⟩) 1 cap)).run Tryd.prog W = .ok (.string ⟨#[UInt8.ofNat (n % 256)]⟩) W := by
  have hb := run_convert_bytes_back (P := Tryd.prog) W 43 9 5 ⟨g, 0, none⟩ cap [UInt8.ofNat (n % 256)] Tryd.underlying43 Tryd.underlying5 Tryd.underlying9 (fun j hj => by
    have : j = 0 := by simpa using hj
    subst this
    have ea : (⟨g, 0, none⟩ : Addr).add 0 = ⟨g, 0, none⟩ := rfl
    rw [ea, h]
    simp [UInt8.toNat_ofNat'])
  exact hb

theorem wrap_div (n : Nat) (hn : n < 18446744073709551616) : IntKind.u64.wrap ((n : Int) / 256) = (n : Int) / 256 := by
  simp only [IntKind.wrap, IntKind.bits, IntKind.signed]
  simp
  omega
theorem be_snoc (k n : Nat) : (ByteArray.mk (Oct.be k (n / 256)).toArray) ++ (ByteArray.mk #[UInt8.ofNat (n % 256)]) = ByteArray.mk (Oct.be (k + 1) n).toArray := by
  apply ByteArray.ext
  simp [Oct.be]
set_option maxHeartbeats 1000000 in
theorem rnum_at (k : Nat) : k ≤ 8 → ∀ (n : Nat) (w : World), n < 18446744073709551616 → Calls Tryd.prog 37 #[.int .u64 (n : Int), .int .i64 (k : Int)] w fun x w' => x = .returned (.string ⟨(Oct.be k n).toArray⟩) ∧ Below w.heap.size w w' := by
  induction k with
  | zero =>
    intro _ n w _
    go_enter Tryd.func37, Tryd.ntmps37
    go_wp2_with fail
    go_ret
    exact ⟨rfl, Below.refl _ _⟩
  | succ k ih =>
    intro hk n w hn
    have ih' : ∀ N b : Int, N = ((n / 256 : Nat) : Int) → b = (k : Int) → ∀ w : World, Calls Tryd.prog 37 #[.int .u64 N, .int .i64 b] w fun x w' => x = .returned (.string ⟨(Oct.be k (n / 256)).toArray⟩) ∧ Below w.heap.size w w' := by
      rintro N b rfl rfl w
      exact ih (by omega) (n / 256) w (by omega)
    have hr : (ByteArray.mk (Oct.be k (n / 256)).toArray).size ≤ 8 := by
      show (Oct.be k (n / 256)).toArray.size ≤ 8
      rw [List.size_toArray, Oct.length_be]; omega
    generalize hre : ByteArray.mk (Oct.be k (n / 256)).toArray = r at ih' hr
    have HRE := Lib.hid hre
    clear hre
    have IH := Lib.hid ih'
    clear ih ih'
    have hw1 : IntKind.i64.wrap (k : Int) = (k : Int) := by rw [IntKind.wrap_i64]; omega
    have hw2 : IntKind.u64.wrap ((n : Int) / 256) = (n : Int) / 256 := wrap_div n hn
    have hw3 : (n : Int).tmod 256 = (n : Int) % 256 := Int.tmod_eq_emod_of_nonneg (by omega)
    have hw4 : IntKind.u8.wrap ((n : Int) % 256) = (n : Int) % 256 := by rw [IntKind.wrap_u8']; omega
    clear hn
    have hcv := conv_one n
    have hd : ((n / 256 : Nat) : Int) = (n : Int) / 256 := by omega
    have HD := Lib.hid hd
    clear hd
    go_enter Tryd.func37, Tryd.ntmps37
    go_wp2_with fail
    go_region_with (first | (go_at_call 37; refine (IH.out _ _ (by omega) (by omega) _).mono ?_; rintro e' w2 ⟨rfl, hb2⟩; have kc := fun h => hb2.cell (p := ⟨w.heap.size, 0, none⟩) h))
    all_goals
      go_wp2
      go_ret
      refine ⟨ret_str (by rw [← HRE.out]; exact be_snoc k n), ?_⟩
      first
        | exact (Below.trans (Below.refl _ _).drew (hb2.mono (by simp))).alloc hb2.size _
        | exact Below.trans (((Below.refl _ _).alloc (Nat.le_refl _) _).drew) (hb2.mono (by simp))

set_option maxHeartbeats 1000000 in
theorem rnum_high (b : Int) (n : Nat) (w : World) (hn : n < 18446744073709551616) (hb : 8 < b) :
    Calls Tryd.prog 37 #[.int .u64 (n : Int), .int .i64 b] w fun x w' => x = .returned (.string ⟨(Oct.be 8 n).toArray⟩) ∧ Below w.heap.size w w' := by
  have ih' : ∀ N b : Int, N = ((n / 256 : Nat) : Int) → b = 7 → ∀ w : World, Calls Tryd.prog 37 #[.int .u64 N, .int .i64 b] w fun x w' => x = .returned (.string ⟨(Oct.be 7 (n / 256)).toArray⟩) ∧ Below w.heap.size w w' := by
    rintro N b rfl rfl w
    exact rnum_at 7 (by omega) (n / 256) w (by omega)
  have hr : (ByteArray.mk (Oct.be 7 (n / 256)).toArray).size ≤ 8 := by
    show (Oct.be 7 (n / 256)).toArray.size ≤ 8
    rw [List.size_toArray, Oct.length_be]; omega
  generalize hre : ByteArray.mk (Oct.be 7 (n / 256)).toArray = r at ih' hr
  have HRE := Lib.hid hre
  clear hre
  have IH := Lib.hid ih'
  clear ih'
  have hw1 : IntKind.i64.wrap 7 = 7 := by rw [IntKind.wrap_i64]; omega
  have hw2 : IntKind.u64.wrap ((n : Int) / 256) = (n : Int) / 256 := wrap_div n hn
  have hw3 : (n : Int).tmod 256 = (n : Int) % 256 := Int.tmod_eq_emod_of_nonneg (by omega)
  have hw4 : IntKind.u8.wrap ((n : Int) % 256) = (n : Int) % 256 := by rw [IntKind.wrap_u8']; omega
  clear hn
  have hcv := conv_one n
  have hd : ((n / 256 : Nat) : Int) = (n : Int) / 256 := by omega
  have HD := Lib.hid hd
  clear hd
  go_enter Tryd.func37, Tryd.ntmps37
  go_wp2_with fail
  go_region_with (first | (go_at_call 37; refine (IH.out _ _ (by omega) (by omega) _).mono ?_; rintro e' w2 ⟨rfl, hb2⟩; have kc := fun h => hb2.cell (p := ⟨w.heap.size, 0, none⟩) h))
  all_goals
    go_wp2
    go_ret
    refine ⟨ret_str (by rw [← HRE.out]; exact be_snoc 7 n), ?_⟩
    first
      | exact (Below.trans (Below.refl _ _).drew (hb2.mono (by simp))).alloc hb2.size _
      | exact Below.trans (((Below.refl _ _).alloc (Nat.le_refl _) _).drew) (hb2.mono (by simp))

set_option maxHeartbeats 1000000 in
theorem rnum_any (b : Int) (n : Nat) (w : World) (hn : n < 18446744073709551616) :
    Calls Tryd.prog 37 #[.int .u64 (n : Int), .int .i64 b] w fun x w' => x = .returned (.string ⟨(Oct.be (Oct.width b) n).toArray⟩) ∧ Below w.heap.size w w' := by
  by_cases h0 : b ≤ 0
  · rw [Oct.width_low h0]
    have h8 : ¬ 8 < b := by omega
    go_enter Tryd.func37, Tryd.ntmps37
    go_wp2_with fail
    go_ret
    exact ⟨rfl, Below.refl _ _⟩
  · by_cases h8 : b ≤ 8
    · have e : ((b.toNat : Nat) : Int) = b := by omega
      have h := rnum_at b.toNat (by omega) n w hn
      rw [e] at h
      have hw : Oct.width b = b.toNat := by rw [← e, Oct.width_num _ (by omega)]; omega
      rw [hw]
      exact h
    · rw [Oct.width_high (by omega)]
      exact rnum_high b n w hn (by omega)
end Go.Proofs.YtpdgadohfhmcnaaDoor
