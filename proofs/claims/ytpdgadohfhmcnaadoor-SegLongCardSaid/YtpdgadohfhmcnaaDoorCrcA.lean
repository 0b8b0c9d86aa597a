/-
  THE STEP OF THE SUM, walked: crc.Step and the document's own bit by bit step come to the same function, where the table's cells hold its sixteen numbers.
-/
import Derived.Test.YtpdgadohfhmcnaaDoorOct
import Derived.Test.YtpdgadohfhmcnaaDoorCrcMath
import Derived.Lib.LaidTab
namespace Go.Proofs.YtpdgadohfhmcnaaDoor
open Go.ChangeShapes Go.WideShapes Go.ChangeAt Go.RowKit
/-- the table's cells, as a word about a world -/
def Tab (w : World) : Prop := ∀ i, i < 16 → w.cell? ⟨0, i, none⟩ = some (.int .u32 (Crc.table.getD i 0))

theorem table_ok : ∀ i : Fin 16, 0 ≤ Crc.table.getD i.val 0 ∧ Crc.table.getD i.val 0 < 4294967296 := by decide
theorem nibs_succ (k r : Nat) : Crc.nibs (k + 1) r = Crc.nib (Crc.nibs k r) := by
  induction k generalizing r with
  | zero => rfl
  | succ k ih => rw [Crc.nibs, ih, Crc.nibs]
theorem nib_lt {r : Nat} (h : r < 4294967296) : Crc.nib r < 4294967296 := by rw [Crc.nib_eq]; exact Crc.halves_lt 4 h
theorem nibs_lt (k : Nat) : ∀ {r : Nat}, r < 4294967296 → Crc.nibs k r < 4294967296 := by
  induction k with
  | zero => intro r h; exact h
  | succ k ih => intro r h; exact ih (nib_lt h)
theorem and15 (x : Nat) (h : x < 4294967296) : bits .and .u32 (x : Int) 15 = ((x % 16 : Nat) : Int) := by
  rw [← nat_mask4 x]
  exact u32_and_nat x 15 h (by decide)
theorem xor_nib (x : Nat) (h : x < 4294967296) : bits .xor .u32 ((x : Int) / 16) (Crc.table.getD (x % 16) 0) = ((Crc.nib x : Nat) : Int) := by
  have ht := table_ok ⟨x % 16, Nat.mod_lt _ (by decide)⟩
  simp only at ht
  rw [u32_xor _ _ (by omega) (by omega) ht.1 ht.2]
  unfold Crc.nib
  congr 2

set_option maxHeartbeats 400000 in
theorem step_any (r b : Nat) (w : World) (hr : r < 4294967296) (hb : b < 256) (hT : Tab w) :
    Calls Tryd.prog 40 #[.int .u32 (r : Int), .int .u8 (b : Int)] w fun e w' => e = .returned (.int .u32 ((Crc.step r b : Nat) : Int)) ∧ w = w' := by
  have hx : bits .xor .u32 (r : Int) (b : Int) = ((r ^^^ b : Nat) : Int) := u32_xor_nat r b hr (by omega)
  have hxl : r ^^^ b < 4294967296 := Crc.xor_lt hr (by omega)
  have hfin : Hid (Crc.step r b = Crc.nibs 2 (r ^^^ b)) := (Crc.nibs_eq _).symm
  go_enter Tryd.func40, Tryd.ntmps40
  go_wp2
  go_loop [0, 9] (fun x i => ∃ k : Nat, k ≤ 2 ∧ i = .int .i64 k ∧ x = .int .u32 ((Crc.nibs k (r ^^^ b) : Nat) : Int)) (fun _ i => 2 - (intOf i).toNat)
  case atStart => exact ⟨0, by omega, rfl, rfl⟩
  case round =>
    obtain ⟨k, hk, rfl, rfl⟩ := hrel
    by_cases hlt : k < 2
    · have hl := nibs_lt k hxl
      have hs := nibs_succ k (r ^^^ b)
      have HS := Lib.hid hs
      clear hs
      generalize hX : Crc.nibs k (r ^^^ b) = X at *
      have HX := Lib.hid hX
      clear hX
      have ha := and15 X hl
      have hxx := xor_nib X hl
      have hc : w.cell? ⟨0, X % 16, none⟩ = some (.int .u32 (Crc.table.getD (X % 16) 0)) := hT _ (Nat.mod_lt _ (by decide))
      generalize Crc.table.getD (X % 16) 0 = t at hc hxx
      go_wp2
      go_round
      case rel => exact ⟨k + 1, by omega, by go_num, by rw [HS.out]⟩
      case measure => simp [intOf]; omega
    · go_wp2
      go_ret
      obtain rfl : k = 2 := by omega
      exact ⟨ret_int (by rw [hfin.out]), rfl⟩

theorem halve_even (x : Nat) (h : x % 2 ≠ 1) : Crc.half x = x / 2 := by unfold Crc.half; rw [if_neg h]
theorem halve_odd (x : Nat) (h : x % 2 = 1) : Crc.half x = (x / 2) ^^^ 3988292384 := by unfold Crc.half; rw [if_pos h]

set_option maxHeartbeats 400000 in
theorem rstep_any (r b : Nat) (w : World) (hr : r < 4294967296) (hb : b < 256) :
    Calls Tryd.prog 42 #[.int .u32 (r : Int), .int .u8 (b : Int)] w fun e w' => e = .returned (.int .u32 ((Crc.step r b : Nat) : Int)) ∧ w = w' := by
  have hx : bits .xor .u32 (r : Int) (b : Int) = ((r ^^^ b : Nat) : Int) := u32_xor_nat r b hr (by omega)
  have hxl : r ^^^ b < 4294967296 := Crc.xor_lt hr (by omega)
  have hfin : Hid (Crc.step r b = Crc.halves 8 (r ^^^ b)) := rfl
  go_enter Tryd.func42, Tryd.ntmps42
  go_wp2
  go_loop [0, 5, 6] (fun x i l => ∃ k : Nat, k ≤ 8 ∧ i = .int .i64 k ∧ x = .int .u32 ((Crc.halves k (r ^^^ b) : Nat) : Int)) (fun _ i _ => 8 - (intOf i).toNat)
  case atStart => exact ⟨0, by omega, rfl, rfl⟩
  case round =>
    obtain ⟨k, hk, rfl, rfl⟩ := hrel
    by_cases hlt : k < 8
    · have hl := Crc.halves_lt k hxl
      have hs := Crc.halves_succ k (r ^^^ b)
      have HS := Lib.hid hs
      clear hs
      generalize hX : Crc.halves k (r ^^^ b) = X at *
      have HX := Lib.hid hX
      clear hX
      by_cases ho : X % 2 = 1
      · have hh := halve_odd X ho
        have HH := Lib.hid hh
        have hxx : bits .xor .u32 ((X : Int) / 2) 3988292384 = ((X / 2 ^^^ 3988292384 : Nat) : Int) := u32_xor_nat (X / 2) 3988292384 (by omega) (by decide)
        have ht : (((X : Int) % 2) == 1) = true := by simp; omega
        clear hh ho
        go_wp2
        go_round
        case rel => exact ⟨k + 1, by omega, by go_num, by rw [HS.out, HH.out]⟩
        case measure => simp [intOf]; omega
      · have hh := halve_even X ho
        have HH := Lib.hid hh
        have ht : (((X : Int) % 2) == 1) = false := by simp; omega
        clear hh ho
        go_wp2
        go_round
        case rel => exact ⟨k + 1, by omega, by go_num, by rw [HS.out, HH.out]; go_num⟩
        case measure => simp [intOf]; omega
    · go_wp2
      go_ret
      obtain rfl : k = 8 := by omega
      exact ⟨ret_int (by rw [hfin.out]), rfl⟩
end Go.Proofs.YtpdgadohfhmcnaaDoor
