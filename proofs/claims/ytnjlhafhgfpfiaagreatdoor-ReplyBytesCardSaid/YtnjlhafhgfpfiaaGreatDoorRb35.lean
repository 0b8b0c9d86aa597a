/-
  THE STEP OF THE SUM, walked: crc.Step and the document's own bit by bit step come to the same function, where the table's cells hold its sixteen numbers. THE SUM, walked: crc.Sum over the texts of a slice, and the document's own Sum of one text, come to the sum of their bytes.
-/
import Derived.Test.YtnjlhafhgfpfiaaGreatDoorRb02
import Derived.Test.YtnjlhafhgfpfiaaGreatDoorRb34
import Derived.Lib.LaidTab
section
namespace Go.Proofs.YtnjlhafhgfpfiaaGreatDoor
open Go.ChangeShapes Go.WideShapes Go.ChangeAt Go.RowKit
/-- the table's cells, as a word about a world -/
def Tab (w : World) : Prop := ∀ i, i < 16 → w.cell? ⟨0, i, none⟩ = some (.int .u32 (Crc.table.getD i 0))

theorem table_ok : ∀ i : Fin 16, 0 ≤ Crc.table.getD i.val 0 ∧ Crc.table.getD i.val 0 < 4294967296 := by decide
theorem nibs_succ (k r : Nat) : Crc.nibs (k + 1) r = Crc.nib (Crc.nibs k r) := by
  induction k generalizing r with
  | zero => rfl
  | succ k ih => rw [Crc.nibs, ih, Crc.nibs]
theorem nib_lt {r : Nat} (h : r < 4294967296) : Crc.nib r < 4294967296 := by rw [Crc.nib_eq]; exact Crc.halves_lt 4 h
theorem nibs_lt (k : Nat) : ∀ {r : Nat}, r < 4294967296 → Crc.nibs k r < 4294967296 := by
  induction k with
  | zero => intro r h; exact h
  | succ k ih => intro r h; exact ih (nib_lt h)
theorem and15 (x : Nat) (h : x < 4294967296) : bits .and .u32 (x : Int) 15 = ((x % 16 : Nat) : Int) := by
  rw [← nat_mask4 x]
  exact u32_and_nat x 15 h (by decide)
theorem xor_nib (x : Nat) (h : x < 4294967296) : bits .xor .u32 ((x : Int) / 16) (Crc.table.getD (x % 16) 0) = ((Crc.nib x : Nat) : Int) := by
  have ht := table_ok ⟨x % 16, Nat.mod_lt _ (by decide)⟩
  simp only at ht
  rw [u32_xor _ _ (by omega) (by omega) ht.1 ht.2]
  unfold Crc.nib
  congr 2

set_option maxHeartbeats 400000 in
theorem step_any (r b : Nat) (w : World) (hr : r < 4294967296) (hb : b < 256) (hT : Tab w) :
    Calls Tryz.prog 69 #[.int .u32 (r : Int), .int .u8 (b : Int)] w fun e w' => e = .returned (.int .u32 ((Crc.step r b : Nat) : Int)) ∧ w = w' := by
  have hx : bits .xor .u32 (r : Int) (b : Int) = ((r ^^^ b : Nat) : Int) := u32_xor_nat r b hr (by omega)
  have hxl : r ^^^ b < 4294967296 := Crc.xor_lt hr (by omega)
  have hfin : Hid (Crc.step r b = Crc.nibs 2 (r ^^^ b)) := (Crc.nibs_eq _).symm
  go_enter Tryz.func69, Tryz.ntmps69
  go_wp2
  go_loop [0, 9] (fun x i => ∃ k : Nat, k ≤ 2 ∧ i = .int .i64 k ∧ x = .int .u32 ((Crc.nibs k (r ^^^ b) : Nat) : Int)) (fun _ i => 2 - (intOf i).toNat)
  case atStart => exact ⟨0, by omega, rfl, rfl⟩
  case round =>
    obtain ⟨k, hk, rfl, rfl⟩ := hrel
    by_cases hlt : k < 2
    · have hl := nibs_lt k hxl
      have hs := nibs_succ k (r ^^^ b)
      have HS := Lib.hid hs
      clear hs
      generalize hX : Crc.nibs k (r ^^^ b) = X at *
      have HX := Lib.hid hX
      clear hX
      have ha := and15 X hl
      have hxx := xor_nib X hl
      have hc : w.cell? ⟨0, X % 16, none⟩ = some (.int .u32 (Crc.table.getD (X % 16) 0)) := hT _ (Nat.mod_lt _ (by decide))
      generalize Crc.table.getD (X % 16) 0 = t at hc hxx
      go_wp2
      go_round
      case rel => exact ⟨k + 1, by omega, by go_num, by rw [HS.out]⟩
      case measure => simp [intOf]; omega
    · go_wp2
      go_ret
      obtain rfl : k = 2 := by omega
      exact ⟨ret_int (by rw [hfin.out]), rfl⟩

theorem halve_even (x : Nat) (h : x % 2 ≠ 1) : Crc.half x = x / 2 := by unfold Crc.half; rw [if_neg h]
theorem halve_odd (x : Nat) (h : x % 2 = 1) : Crc.half x = (x / 2) ^^^ 3988292384 := by unfold Crc.half; rw [if_pos h]

set_option maxHeartbeats 400000 in
theorem rstep_any (r b : Nat) (w : World) (hr : r < 4294967296) (hb : b < 256) :
    Calls Tryz.prog 71 #[.int .u32 (r : Int), .int .u8 (b : Int)] w fun e w' => e = .returned (.int .u32 ((Crc.step r b : Nat) : Int)) ∧ w = w' := by
  have hx : bits .xor .u32 (r : Int) (b : Int) = ((r ^^^ b : Nat) : Int) := u32_xor_nat r b hr (by omega)
  have hxl : r ^^^ b < 4294967296 := Crc.xor_lt hr (by omega)
  have hfin : Hid (Crc.step r b = Crc.halves 8 (r ^^^ b)) := rfl
  go_enter Tryz.func71, Tryz.ntmps71
  go_wp2
  go_loop [0, 5, 6] (fun x i l => ∃ k : Nat, k ≤ 8 ∧ i = .int .i64 k ∧ x = .int .u32 ((Crc.halves k (r ^^^ b) : Nat) : Int)) (fun _ i _ => 8 - (intOf i).toNat)
  case atStart => exact ⟨0, by omega, rfl, rfl⟩
  case round =>
    obtain ⟨k, hk, rfl, rfl⟩ := hrel
    by_cases hlt : k < 8
    · have hl := Crc.halves_lt k hxl
      have hs := Crc.halves_succ k (r ^^^ b)
      have HS := Lib.hid hs
      clear hs
      generalize hX : Crc.halves k (r ^^^ b) = X at *
      have HX := Lib.hid hX
      clear hX
      by_cases ho : X % 2 = 1
      · have hh := halve_odd X ho
        have HH := Lib.hid hh
        have hxx : bits .xor .u32 ((X : Int) / 2) 3988292384 = ((X / 2 ^^^ 3988292384 : Nat) : Int) := u32_xor_nat (X / 2) 3988292384 (by omega) (by decide)
        have ht : (((X : Int) % 2) == 1) = true := by simp; omega
        clear hh ho
        go_wp2
        go_round
        case rel => exact ⟨k + 1, by omega, by go_num, by rw [HS.out, HH.out]⟩
        case measure => simp [intOf]; omega
      · have hh := halve_even X ho
        have HH := Lib.hid hh
        have ht : (((X : Int) % 2) == 1) = false := by simp; omega
        clear hh ho
        go_wp2
        go_round
        case rel => exact ⟨k + 1, by omega, by go_num, by rw [HS.out, HH.out]; go_num⟩
        case measure => simp [intOf]; omega
    · go_wp2
      go_ret
      obtain rfl : k = 8 := by omega
      exact ⟨ret_int (by rw [hfin.out]), rfl⟩
end Go.Proofs.YtnjlhafhgfpfiaaGreatDoor
end
section
namespace Go.Proofs.YtnjlhafhgfpfiaaGreatDoor
open Go.ChangeShapes Go.WideShapes Go.ChangeAt Go.RowKit
def bytesOf (ss : List ByteArray) : List UInt8 := ss.flatMap fun s => s.data.toList
theorem bytesOf_take (ss : List ByteArray) (k : Nat) (h : k < ss.length) : bytesOf (ss.take (k + 1)) = bytesOf (ss.take k) ++ (ss.getD k ByteArray.empty).data.toList := by
  unfold bytesOf
  rw [List.take_succ_eq_append_getElem h, List.flatMap_append]
  simp [List.getD_eq_getElem?_getD, h]
theorem run_snoc (r : Nat) (s : ByteArray) (k : Nat) (h : k < s.size) : Crc.run r (s.data.toList.take (k + 1)) = Crc.step (Crc.run r (s.data.toList.take k)) s[k].toNat := by
  rw [take_snoc s k h, Crc.run_append]; rfl
theorem not_xor (x : Nat) (h : x < 4294967296) : bits .xor .u32 IntKind.u32.max (x : Int) = ((x ^^^ 4294967295 : Nat) : Int) := by
  have hm : IntKind.u32.max = ((4294967295 : Nat) : Int) := by decide
  rw [hm, u32_xor_nat 4294967295 x (by decide) h, Nat.xor_comm]
theorem ref_xor (x : Nat) (h : x < 4294967296) : bits .xor .u32 (x : Int) 4294967295 = ((x ^^^ 4294967295 : Nat) : Int) := u32_xor_nat x 4294967295 h (by decide)

set_option maxHeartbeats 1000000 in
theorem sum_any (ss : List ByteArray) (b c : Nat) (w : World) (hn : ss.length ≤ 3) (hs : ∀ k, (ss.getD k ByteArray.empty).size ≤ 100000) (hT : Tab w)
    (hc : ∀ k, k < ss.length → w.cell? ⟨b, k, none⟩ = some (.string (ss.getD k ByteArray.empty))) :
    Calls Tryz.prog 46 #[.slice (some ⟨b, 0, none⟩) ss.length c] w fun e w' => e = .returned (.int .u32 ((Crc.sum (bytesOf ss) : Nat) : Int)) ∧ w = w' := by
  have HC := Lib.hid hc
  have HB := Lib.hid hs
  clear hc hs
  go_enter Tryz.func46, Tryz.ntmps46
  go_wp2
  go_loop [3, 9] (fun x i => ∃ k : Nat, k ≤ ss.length ∧ i = .int .i64 k ∧ x = .int .u32 ((Crc.run 4294967295 (bytesOf (ss.take k)) : Nat) : Int)) (fun _ i => ss.length - (intOf i).toNat)
  case atStart => exact ⟨0, by omega, rfl, rfl⟩
  case round =>
    obtain ⟨k, hk, rfl, rfl⟩ := hrel
    by_cases hlt : k < ss.length
    · have hl := Crc.run_lt (bytesOf (ss.take k)) (r := 4294967295) (by decide)
      have HS := Lib.hid (bytesOf_take ss k hlt)
      have hck := HC.out k hlt
      have hsk := HB.out k
      generalize hX : Crc.run 4294967295 (bytesOf (ss.take k)) = X at *
      have HX := Lib.hid hX
      clear hX
      generalize hsv : ss.getD k ByteArray.empty = s at *
      have Hsv := Lib.hid hsv
      clear hsv
      go_wp2
      go_loop [3, 15] (fun x i => ∃ j : Nat, j ≤ s.size ∧ i = .int .i64 j ∧ x = .int .u32 ((Crc.run X (s.data.toList.take j) : Nat) : Int)) (fun _ i => s.size - (intOf i).toNat)
      case atStart => exact ⟨0, by omega, rfl, rfl⟩
      case round =>
        obtain ⟨j, hj, rfl, rfl⟩ := hrel
        by_cases hjl : j < s.size
        · have hyl := Crc.run_lt (s.data.toList.take j) hl
          have HR := Lib.hid (run_snoc X s j hjl)
          have hb : s[j].toNat < 256 := s[j].toNat_lt
          generalize hY : Crc.run X (s.data.toList.take j) = Y at *
          have HY := Lib.hid hY
          clear hY
          go_wp2_with (go_at_call 69; refine (step_any _ _ _ hyl hb hT).mono ?_; rintro e w' ⟨rfl, rfl⟩)
          go_round
          case rel => exact ⟨j + 1, by omega, by go_num, by rw [HR.out]⟩
          case measure => simp [intOf]; omega
        · go_wp2
          go_round
          case rel =>
            obtain rfl : j = s.size := by omega
            exact ⟨k + 1, by omega, by go_num, by rw [HS.out, Crc.run_append, HX.out, List.take_of_length_le (by simp)]⟩
          case measure => simp [intOf]; omega
    · obtain rfl : k = ss.length := by omega
      have hl := Crc.run_lt (bytesOf (ss.take ss.length)) (r := 4294967295) (by decide)
      have HX := Lib.hid (show bytesOf (ss.take ss.length) = bytesOf ss by rw [List.take_length])
      generalize bytesOf (ss.take ss.length) = L at *
      have hx := not_xor _ hl
      have HF : Hid (Crc.sum L = Crc.run 4294967295 L ^^^ 4294967295) := rfl
      generalize Crc.run 4294967295 L = X at *
      have hx2 := Lib.hid hx
      clear hx
      go_wp2
      go_ret
      exact ⟨ret_int (by rw [← HX.out, HF.out, ← hx2.out]), rfl⟩

set_option maxHeartbeats 1000000 in
theorem sum_none (w : World) (c : Nat) : Calls Tryz.prog 46 #[.slice none 0 c] w fun e w' => e = .returned (.int .u32 0) ∧ w = w' := by
  go_enter Tryz.func46, Tryz.ntmps46
  go_wp2
  go_loop [3, 9] (fun x i => x = .int .u32 4294967295 ∧ i = .int .i64 0) (fun _ _ => 0)
  case atStart => exact ⟨rfl, rfl⟩
  case round =>
    obtain ⟨rfl, rfl⟩ := hrel
    go_wp2
    go_ret
    exact ⟨ret_int (by decide), rfl⟩

set_option maxHeartbeats 1000000 in
theorem rsum_any (s : ByteArray) (w : World) (hs : s.size ≤ 100000) :
    Calls Tryz.prog 50 #[.string s] w fun e w' => e = .returned (.int .u32 ((Crc.sum s.data.toList : Nat) : Int)) ∧ w = w' := by
  have HF : Hid (Crc.sum s.data.toList = Crc.run 4294967295 s.data.toList ^^^ 4294967295) := rfl
  go_enter Tryz.func50, Tryz.ntmps50
  go_wp2
  go_loop [3, 4] (fun x i => ∃ j : Nat, j ≤ s.size ∧ i = .int .i64 j ∧ x = .int .u32 ((Crc.run 4294967295 (s.data.toList.take j) : Nat) : Int)) (fun _ i => s.size - (intOf i).toNat)
  case atStart => exact ⟨0, by omega, rfl, rfl⟩
  case round =>
    obtain ⟨j, hj, rfl, rfl⟩ := hrel
    have hyl := Crc.run_lt (s.data.toList.take j) (r := 4294967295) (by decide)
    by_cases hjl : j < s.size
    · have HR := Lib.hid (run_snoc 4294967295 s j hjl)
      have hb : s[j].toNat < 256 := s[j].toNat_lt
      generalize hY : Crc.run 4294967295 (s.data.toList.take j) = Y at *
      have HY := Lib.hid hY
      clear hY
      go_wp2_with (go_at_call 71; refine (rstep_any _ _ _ hyl hb).mono ?_; rintro e w' ⟨rfl, rfl⟩)
      go_round
      case rel => exact ⟨j + 1, by omega, by go_num, by rw [HR.out]⟩
      case measure => simp [intOf]; omega
    · have HX := Lib.hid (show Crc.run 4294967295 (s.data.toList.take j) = Crc.run 4294967295 s.data.toList by rw [List.take_of_length_le (by simp; omega)])
      generalize Crc.run 4294967295 (s.data.toList.take j) = X at *
      have hx2 := Lib.hid (ref_xor X hyl)
      go_wp2
      go_ret
      exact ⟨ret_int (by rw [HF.out, ← HX.out, ← hx2.out]), rfl⟩
end Go.Proofs.YtnjlhafhgfpfiaaGreatDoor
end
