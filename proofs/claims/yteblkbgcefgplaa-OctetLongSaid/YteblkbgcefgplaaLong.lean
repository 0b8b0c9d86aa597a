/-
  THE WALK of OctetLong: a text of at most as many bytes as may be is written; of a longer one nothing, and it is told, also behind others.
-/
import Derived.Test.YteblkbgcefgplaaText
import Derived.Test.YteblkbgcefgplaaShelf
namespace Go.Proofs.Yteblkbgcefgplaa
open Go.ChangeShapes Go.WideShapes Go.ChangeAt Go.RowKit

theorem repeat_any (n : Nat) (hn : n ≤ 70000) : ∃ r : ByteArray, r.size = n ∧ ∀ w : World, Calls Try.prog 32 #[.string ⟨#[97]⟩, .int .i64 (n : Int)] w fun x w' => x = .returned (.string r) ∧ Below w.heap.size w w' := by
  refine ⟨⟨(Lib.repeatL [97] n).toArray⟩, ?_, fun w => ?_⟩
  · show (Lib.repeatL [97] n).toArray.size = n
    rw [List.size_toArray, Lib.repeatL_length]
    simp
  · exact Try.strings_Repeat ⟨#[97]⟩ n w (by omega) (by show 1 * n ≤ _; omega)

theorem empty_raw (s : ByteArray) : (ByteArray.mk #[]) ++ s = s := by
  apply ByteArray.ext
  simp
set_option maxHeartbeats 1000000 in
theorem long_out (n : Int) (s : ByteArray) (w : World) (h : n < 0 ∨ 70000 < n ∨ 100 < s.size) :
    Calls Try.prog 6 #[.int .i32 n, .string s] w fun x w' => x = .returned (.bool true) ∧ Below w.heap.size w w' := by
  by_cases h1 : n < 0
  · clear h
    go_enter Try.func6, Try.ntmps6
    go_wp2_with fail
    refine (awake_any _).mono ?_
    rintro x w1 ⟨rfl, b1⟩
    have B1 := Lib.hid b1
    clear b1
    go_wp2_with fail
    go_ret
    exact ⟨rfl, B1.out⟩
  · by_cases h2 : 70000 < n
    · clear h
      go_enter Try.func6, Try.ntmps6
      go_wp2_with fail
      refine (awake_any _).mono ?_
      rintro x w1 ⟨rfl, b1⟩
      have B1 := Lib.hid b1
      clear b1
      go_wp2_with fail
      go_ret
      exact ⟨rfl, B1.out⟩
    · have h3 : 100 < s.size := by omega
      clear h
      go_enter Try.func6, Try.ntmps6
      go_wp2_with fail
      refine (awake_any _).mono ?_
      rintro x w1 ⟨rfl, b1⟩
      have B1 := Lib.hid b1
      clear b1
      go_wp2_with fail
      go_ret
      exact ⟨rfl, B1.out⟩

set_option maxHeartbeats 1000000 in
theorem long_short (n : Nat) (s : ByteArray) (w : World) (hn : n ≤ 65535) (hs : s.size ≤ 100) :
    Calls Try.prog 6 #[.int .i32 (n : Int), .string s] w fun x w' => x = .returned (.bool true) ∧ Below w.heap.size w w' := by
  obtain ⟨r, hr, hc⟩ := repeat_any n (by omega)
  have HC := Lib.hid hc
  have HZ := Lib.hid hr
  have hr1 : r.size ≤ 65535 := by omega
  clear hc hr
  have he := empty_raw s
  go_enter Try.func6, Try.ntmps6
  go_wp2_with fail
  refine (awake_any _).mono ?_
  rintro x w1 ⟨rfl, b1⟩
  have B1 := Lib.hid b1
  clear b1
  go_wp2_with fail
  refine (raw_any _ _ _ _ (by decide) (by omega)).mono ?_
  rintro x w2 ⟨rfl, b2⟩
  have B2 := Lib.hid (Below.trans B1.out (b2.mono B1.out.size))
  clear b2
  go_wp2_with fail
  refine (HC.out _).mono ?_
  rintro x w3 ⟨rfl, b3⟩
  have B3 := Lib.hid (Below.trans B2.out (b3.mono B2.out.size))
  clear b3
  have hts : (s ++ textB r).size = s.size + (2 + r.size) := by rw [ByteArray.size_append]; unfold textB; rw [ByteArray.size_append, be_size]
  have hto := fun W => text_any s r 0 W (by omega) hr1
  generalize s ++ textB r = o at hts hto
  have HTS := Lib.hid hts
  have ho : o.size ≤ 900000 := by omega
  clear hts
  go_wp2_with fail
  refine (hto _).mono ?_
  clear hto
  rintro x w4 ⟨rfl, b4⟩
  have B4 := Lib.hid (Below.trans B3.out (b4.mono B3.out.size))
  have hz4 := B4.out.size
  clear b4
  go_wp2_with fail
  refine (text_any _ _ _ _ ho (by omega)).mono ?_
  rintro x w5 ⟨rfl, b5⟩
  have z5 : w4.heap.size < w5.heap.size := by have := b5.size; simp at this; omega
  have p0 := (b5.cell (p := ⟨w4.heap.size, 0, none⟩) (by simp)).trans (cell_new _ _ _ _ _ rfl)
  have p1 := (b5.cell (p := ⟨w4.heap.size, 1, none⟩) (by simp)).trans (cell_new _ _ _ _ _ rfl)
  simp at p0 p1
  have B5 := Lib.hid (Below.trans (B4.out.alloc hz4 _) (b5.mono (by simp; omega)))
  have hz5 := B5.out.size
  clear b5
  go_wp2_with fail
  refine (oerr_any _ _ _).mono ?_
  rintro x w6 ⟨rfl, b6⟩
  have q0 := (b6.cell (p := ⟨w4.heap.size, 0, none⟩) (by simp; omega)).trans ((cell_old _ _ _ _ (by omega)).trans p0)
  have q1 := (b6.cell (p := ⟨w4.heap.size, 1, none⟩) (by simp; omega)).trans ((cell_old _ _ _ _ (by omega)).trans p1)
  have B6 := Lib.hid (Below.trans (B5.out.alloc hz5 _) (b6.mono (by simp; omega)))
  have hz6 := B6.out.size
  clear b6 p0 p1
  go_wp2_with fail
  refine (str_any _ _ _).mono ?_
  rintro x w7 ⟨rfl, b7⟩
  have B7 := Lib.hid (Below.trans B6.out (b7.mono hz6))
  clear b7
  have hfin : ((o.size : Int) == (s.size : Int) + 2 + (n : Int)) = true := by have := HZ.out; have := HTS.out; simp; omega
  go_wp2_with fail
  go_ret
  exact ⟨rfl, B7.out⟩

set_option maxHeartbeats 1000000 in
theorem long_long (n : Nat) (s : ByteArray) (w : World) (hn : 65535 < n) (hn2 : n ≤ 70000) (hs : s.size ≤ 100) :
    Calls Try.prog 6 #[.int .i32 (n : Int), .string s] w fun x w' => x = .returned (.bool true) ∧ Below w.heap.size w w' := by
  obtain ⟨r, hr, hc⟩ := repeat_any n (by omega)
  have HC := Lib.hid hc
  have hr1 : 65535 < r.size := by omega
  have hr2 : r.size ≤ 70000 := by omega
  clear hc hr
  have he := empty_raw s
  have hrt := fun W => rtext_any s W (by omega)
  have HRT := Lib.hid hrt
  clear hrt
  have htb : (textB s).size ≤ 102 := by unfold textB; rw [ByteArray.size_append, be_size]; omega
  go_enter Try.func6, Try.ntmps6
  go_wp2_with fail
  refine (awake_any _).mono ?_
  rintro x w1 ⟨rfl, b1⟩
  have B1 := Lib.hid b1
  clear b1
  go_wp2_with fail
  refine (raw_any _ _ _ _ (by decide) (by omega)).mono ?_
  rintro x w2 ⟨rfl, b2⟩
  have B2 := Lib.hid (Below.trans B1.out (b2.mono B1.out.size))
  clear b2
  go_wp2_with fail
  refine (HC.out _).mono ?_
  rintro x w3 ⟨rfl, b3⟩
  have B3 := Lib.hid (Below.trans B2.out (b3.mono B2.out.size))
  clear b3
  go_wp2_with fail
  refine (text_long s r 0 _ hr1 (by omega)).mono ?_
  rintro x w4 ⟨rfl, b4⟩
  have B4 := Lib.hid (Below.trans B3.out (b4.mono B3.out.size))
  have hz4 := B4.out.size
  clear b4
  go_wp2_with fail
  refine (text_any _ _ _ _ (by omega) (by omega)).mono ?_
  rintro x w5 ⟨rfl, b5⟩
  have z5 : w4.heap.size < w5.heap.size := by have := b5.size; simp at this; omega
  have p0 := (b5.cell (p := ⟨w4.heap.size, 0, none⟩) (by simp)).trans (cell_new _ _ _ _ _ rfl)
  have p1 := (b5.cell (p := ⟨w4.heap.size, 1, none⟩) (by simp)).trans (cell_new _ _ _ _ _ rfl)
  simp at p0 p1
  have B5 := Lib.hid (Below.trans (B4.out.alloc hz4 _) (b5.mono (by simp; omega)))
  have hz5 := B5.out.size
  clear b5
  generalize textB s = tb at *
  go_wp2_with fail
  refine (str_any _ _ _).mono ?_
  rintro x w6 ⟨rfl, b6⟩
  have z6 : w5.heap.size < w6.heap.size := by have := b6.size; simp at this; omega
  have q0 := (b6.cell (p := ⟨w4.heap.size, 0, none⟩) (by simp; omega)).trans ((cell_old _ _ _ _ (by omega)).trans p0)
  have q1 := (b6.cell (p := ⟨w4.heap.size, 1, none⟩) (by simp; omega)).trans ((cell_old _ _ _ _ (by omega)).trans p1)
  have r0 := (b6.cell (p := ⟨w5.heap.size, 0, none⟩) (by simp)).trans (cell_new _ _ _ _ _ rfl)
  have r1 := (b6.cell (p := ⟨w5.heap.size, 1, none⟩) (by simp)).trans (cell_new _ _ _ _ _ rfl)
  simp at r0 r1
  have B6 := Lib.hid (Below.trans (B5.out.alloc hz5 _) (b6.mono (by simp; omega)))
  have hz6 := B6.out.size
  clear b6 p0 p1
  go_wp2_with fail
  refine (oerr_any _ _ _).mono ?_
  rintro x w7 ⟨rfl, b7⟩
  have s0 := (b7.cell (p := ⟨w5.heap.size, 0, none⟩) (by simp; omega)).trans r0
  have s1 := (b7.cell (p := ⟨w5.heap.size, 1, none⟩) (by simp; omega)).trans r1
  have B7 := Lib.hid (Below.trans B6.out (b7.mono hz6))
  have hz7 := B7.out.size
  have z7 : w6.heap.size ≤ w7.heap.size := b7.size
  clear b7 q0 q1 r0 r1
  go_wp2_with fail
  refine (oerr_any _ _ _).mono ?_
  rintro x w8 ⟨rfl, b8⟩
  have t0 := (b8.cell (p := ⟨w5.heap.size, 0, none⟩) (by simp; omega)).trans s0
  have t1 := (b8.cell (p := ⟨w5.heap.size, 1, none⟩) (by simp; omega)).trans s1
  have B8 := Lib.hid (Below.trans B7.out (b8.mono hz7))
  have hz8 := B8.out.size
  clear b8 s0 s1
  go_wp2_with fail
  refine (str_any _ _ _).mono ?_
  rintro x w9 ⟨rfl, b9⟩
  have B9 := Lib.hid (Below.trans B8.out (b9.mono hz8))
  have hz9 := B9.out.size
  clear b9 t0 t1
  go_wp2_with fail
  refine (HRT.out _).mono ?_
  rintro x w10 ⟨rfl, b10⟩
  have B10 := Lib.hid (Below.trans B9.out (b10.mono hz9))
  clear b10
  go_wp2_with fail
  go_ret
  exact ⟨rfl, B10.out⟩
theorem long_walk (n : Int) (s : ByteArray) (w : World) :
    Calls Try.prog 6 #[.int .i32 n, .string s] w fun x w' => x = .returned (.bool true) ∧ Below w.heap.size w w' := by
  by_cases h : n < 0 ∨ 70000 < n ∨ 100 < s.size
  · exact long_out n s w h
  · obtain ⟨m, rfl⟩ : ∃ m : Nat, n = (m : Int) := ⟨n.toNat, by omega⟩
    by_cases hm : m ≤ 65535
    · exact long_short m s w hm (by omega)
    · exact long_long m s w (by omega) (by omega) (by omega)
end Go.Proofs.Yteblkbgcefgplaa
