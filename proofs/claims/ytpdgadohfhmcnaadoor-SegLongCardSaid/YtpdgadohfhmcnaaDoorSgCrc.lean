/-
  THE SUM of longer texts.
-/
import Derived.Test.YtpdgadohfhmcnaaDoorCrcC
import Derived.Test.YtpdgadohfhmcnaaDoorOfL
namespace Go.Proofs.YtpdgadohfhmcnaaDoor
open Go.ChangeShapes Go.WideShapes Go.ChangeAt Go.RowKit
set_option maxHeartbeats 10000000 in
theorem sum_anyB (ss : List ByteArray) (b c : Nat) (w : World) (hn : ss.length ≤ 3) (hs : ∀ k, (ss.getD k ByteArray.empty).size ≤ 1000000) (hT : Tab w)
    (hc : ∀ k, k < ss.length → w.cell? ⟨b, k, none⟩ = some (.string (ss.getD k ByteArray.empty))) :
    Calls Tryd.prog 31 #[.slice (some ⟨b, 0, none⟩) ss.length c] w fun e w' => e = .returned (.int .u32 ((Crc.sum (bytesOf ss) : Nat) : Int)) ∧ w = w' := by
  have HC := Lib.hid hc
  have HB := Lib.hid hs
  clear hc hs
  go_enter Tryd.func31, Tryd.ntmps31
  go_wp2
  go_loop [3, 9] (fun x i => ∃ k : Nat, k ≤ ss.length ∧ i = .int .i64 k ∧ x = .int .u32 ((Crc.run 4294967295 (bytesOf (ss.take k)) : Nat) : Int)) (fun _ i => ss.length - (intOf i).toNat)
  case atStart => exact ⟨0, by omega, rfl, rfl⟩
  case round =>
    obtain ⟨k, hk, rfl, rfl⟩ := hrel
    by_cases hlt : k < ss.length
    · have hl := Crc.run_lt (bytesOf (ss.take k)) (r := 4294967295) (by decide)
      have HS := Lib.hid (bytesOf_take ss k hlt)
      have hck := HC.out k hlt
      have hsk := HB.out k
      generalize hX : Crc.run 4294967295 (bytesOf (ss.take k)) = X at *
      have HX := Lib.hid hX
      clear hX
      generalize hsv : ss.getD k ByteArray.empty = s at *
      have Hsv := Lib.hid hsv
      clear hsv
      go_wp2
      go_loop [3, 15] (fun x i => ∃ j : Nat, j ≤ s.size ∧ i = .int .i64 j ∧ x = .int .u32 ((Crc.run X (s.data.toList.take j) : Nat) : Int)) (fun _ i => s.size - (intOf i).toNat)
      case atStart => exact ⟨0, by omega, rfl, rfl⟩
      case round =>
        obtain ⟨j, hj, rfl, rfl⟩ := hrel
        by_cases hjl : j < s.size
        · have hyl := Crc.run_lt (s.data.toList.take j) hl
          have HR := Lib.hid (run_snoc X s j hjl)
          have hb : s[j].toNat < 256 := s[j].toNat_lt
          generalize hY : Crc.run X (s.data.toList.take j) = Y at *
          have HY := Lib.hid hY
          clear hY
          go_wp2_with (go_at_call 40; refine (step_any _ _ _ hyl hb hT).mono ?_; rintro e w' ⟨rfl, rfl⟩)
          go_round
          case rel => exact ⟨j + 1, by omega, by go_num, by rw [HR.out]⟩
          case measure => simp [intOf]; omega
        · go_wp2
          go_round
          case rel =>
            obtain rfl : j = s.size := by omega
            exact ⟨k + 1, by omega, by go_num, by rw [HS.out, Crc.run_append, HX.out, List.take_of_length_le (by simp)]⟩
          case measure => simp [intOf]; omega
    · obtain rfl : k = ss.length := by omega
      have hl := Crc.run_lt (bytesOf (ss.take ss.length)) (r := 4294967295) (by decide)
      have HX := Lib.hid (show bytesOf (ss.take ss.length) = bytesOf ss by rw [List.take_length])
      generalize bytesOf (ss.take ss.length) = L at *
      have hx := not_xor _ hl
      have HF : Hid (Crc.sum L = Crc.run 4294967295 L ^^^ 4294967295) := rfl
      generalize Crc.run 4294967295 L = X at *
      have hx2 := Lib.hid hx
      clear hx
      go_wp2
      go_ret
      exact ⟨ret_int (by rw [← HX.out, HF.out, ← hx2.out]), rfl⟩
set_option maxHeartbeats 10000000 in
theorem rsum_anyB (s : ByteArray) (w : World) (hs : s.size ≤ 1000000) :
    Calls Tryd.prog 38 #[.string s] w fun e w' => e = .returned (.int .u32 ((Crc.sum s.data.toList : Nat) : Int)) ∧ w = w' := by
  have HF : Hid (Crc.sum s.data.toList = Crc.run 4294967295 s.data.toList ^^^ 4294967295) := rfl
  go_enter Tryd.func38, Tryd.ntmps38
  go_wp2
  go_loop [3, 4] (fun x i => ∃ j : Nat, j ≤ s.size ∧ i = .int .i64 j ∧ x = .int .u32 ((Crc.run 4294967295 (s.data.toList.take j) : Nat) : Int)) (fun _ i => s.size - (intOf i).toNat)
  case atStart => exact ⟨0, by omega, rfl, rfl⟩
  case round =>
    obtain ⟨j, hj, rfl, rfl⟩ := hrel
    have hyl := Crc.run_lt (s.data.toList.take j) (r := 4294967295) (by decide)
    by_cases hjl : j < s.size
    · have HR := Lib.hid (run_snoc 4294967295 s j hjl)
      have hb : s[j].toNat < 256 := s[j].toNat_lt
      generalize hY : Crc.run 4294967295 (s.data.toList.take j) = Y at *
      have HY := Lib.hid hY
      clear hY
      go_wp2_with (go_at_call 42; refine (rstep_any _ _ _ hyl hb).mono ?_; rintro e w' ⟨rfl, rfl⟩)
      go_round
      case rel => exact ⟨j + 1, by omega, by go_num, by rw [HR.out]⟩
      case measure => simp [intOf]; omega
    · have HX := Lib.hid (show Crc.run 4294967295 (s.data.toList.take j) = Crc.run 4294967295 s.data.toList by rw [List.take_of_length_le (by simp; omega)])
      generalize Crc.run 4294967295 (s.data.toList.take j) = X at *
      have hx2 := Lib.hid (ref_xor X hyl)
      go_wp2
      go_ret
      exact ⟨ret_int (by rw [HF.out, ← HX.out, ← hx2.out]), rfl⟩
theorem sum_twoB (x y : ByteArray) (b c : Nat) (w : World) (hx : x.size ≤ 1000000) (hy : y.size ≤ 1000000) (hT : Tab w)
    (h0 : w.cell? ⟨b, 0, none⟩ = some (.string x)) (h1 : w.cell? ⟨b, 1, none⟩ = some (.string y)) :
    Calls Tryd.prog 31 #[.slice (some ⟨b, 0, none⟩) 2 c] w fun e w' => e = .returned (.int .u32 ((Crc.sum (x.data.toList ++ y.data.toList) : Nat) : Int)) ∧ w = w' := by
  refine (sum_anyB [x, y] b c w (by simp) ?_ hT ?_).mono ?_
  · intro k
    match k with
    | 0 => exact hx
    | 1 => exact hy
    | k + 2 => simp
  · intro k hk
    match k, hk with
    | 0, _ => exact h0
    | 1, _ => exact h1
  · rintro e w' ⟨rfl, rfl⟩
    exact ⟨by simp [bytesOf], rfl⟩
theorem sum_oneB (x : ByteArray) (b c : Nat) (w : World) (hx : x.size ≤ 1000000) (hT : Tab w) (h0 : w.cell? ⟨b, 0, none⟩ = some (.string x)) :
    Calls Tryd.prog 31 #[.slice (some ⟨b, 0, none⟩) 1 c] w fun e w' => e = .returned (.int .u32 ((Crc.sum x.data.toList : Nat) : Int)) ∧ w = w' := by
  refine (sum_anyB [x] b c w (by simp) ?_ hT ?_).mono ?_
  · intro k
    match k with
    | 0 => exact hx
    | k + 1 => simp
  · intro k hk
    match k, hk with
    | 0, _ => exact h0
  · rintro e w' ⟨rfl, rfl⟩
    exact ⟨by simp [bytesOf], rfl⟩
end Go.Proofs.YtpdgadohfhmcnaaDoor
