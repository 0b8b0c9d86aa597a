/-
  A NUMBER AT THE FRONT OF A TEXT, walked.
-/
import Derived.Test.YtokljdaofjgihaaGreatDoorLatDigits
import Derived.Test.YtokljdaofjgihaaGreatDoorOfL
namespace Go.Proofs.YtokljdaofjgihaaGreatDoor
open Go.ChangeShapes Go.WideShapes Go.ChangeAt Go.RowKit

theorem head_at (s : ByteArray) (h : 0 < s.size) : s.data.toList.head? = some s[0] := by
  rw [List.head?_eq_getElem?]
  exact List.getElem?_eq_getElem h
theorem ret_three {a b c d e f : Value} (h1 : a = d) (h2 : b = e) (h3 : c = f) : Ending.returned (.tuple #[a, b, c]) = .returned (.tuple #[d, e, f]) := by rw [h1, h2, h3]
theorem drewN_below {B : Nat} {a w : World} (h : Below B a w) (n : Nat) : Below B a (w.drewN n) := ⟨h.os, h.tape, h.output, h.size, h.block⟩
theorem min_of_le {v m : Nat} (h : ¬ m < v) (hm : m ≤ 31) : min v 99 = v := Nat.min_eq_left (by omega)
theorem lt_min_iff {v m : Nat} (hm : m ≤ 31) : m < v ↔ (m : Int) < ((min v 99 : Nat) : Int) := by
  have e : m < v ↔ m < min v 99 := by
    rw [Nat.lt_min]; exact ⟨fun h => ⟨h, by omega⟩, fun h => h.1⟩
  rw [e]; exact Int.ofNat_lt.symm
theorem nil_of_size {s : ByteArray} (h : s.size = 0) : s = ⟨#[]⟩ := by
  cases s with
  | mk d => have : d = #[] := Array.size_eq_zero_iff.1 h
            rw [this]
theorem not_empty {s : ByteArray} (h : s.size ≠ 0) : s.toList.isEmpty = false := by
  rw [Go.ByteArray.toList_eq]
  cases hl : s.data.toList with
  | nil => exact absurd (by show s.data.size = 0; rw [← Array.length_toList, hl]; rfl) h
  | cons b l => rfl
theorem head_eq (s : ByteArray) (h : 0 < s.size) (b : UInt8) : s.data.toList.head? = some b ↔ ((s[0].toNat : Int) == (b.toNat : Int)) = true := by
  rw [head_at s h, beq_iff_eq, Option.some_inj]
  constructor
  · rintro rfl; rfl
  · intro h; exact UInt8.toNat_inj.1 (by omega)
set_option maxHeartbeats 1000000 in
theorem number_any (s : ByteArray) (most : Nat) (w : World) (hs : s.size ≤ 9223372036854775807) (hm : most ≤ 31) :
    Calls Tryz.prog 111 #[.string s, .int .i64 (most : Int)] w fun e w' => e = .returned (.tuple #[.int .i64 ((Lat.num most s.data.toList).1 : Int), .string (ofL (Lat.num most s.data.toList).2.1), .int .i64 ((Lat.num most s.data.toList).2.2 : Int)]) ∧ Below w.heap.size w w' := by
  have HD := Lib.hid (digits_any s w hs)
  by_cases h0 : s.size = 0
  · rw [Lat.num_short (l := s.data.toList) h0]
    obtain rfl := nil_of_size h0
    clear h0
    go_enter Tryz.func111, Tryz.ntmps111
    go_wp2_with fail
    refine HD.out.mono ?_
    rintro e w' ⟨rfl, rfl⟩
    go_wp2_with fail
    go_ret3
    exact ⟨rfl, Below.refl _ _⟩
  · have hlen := Lat.digs_le s.data.toList
    have hl0 : s.data.toList.length = s.size := rfl
    have he := not_empty h0
    have hpos : 0 < s.size := by omega
    have hX := lt_min_iff (v := Lat.val (Lat.digs s.data.toList)) hm
    by_cases h1 : (Lat.digs s.data.toList).length = 0
    · rw [Lat.num_form (l := s.data.toList) h0 h1]
      rw [h1] at HD
      generalize min (Lat.val (Lat.digs s.data.toList)) 99 = X at *
      clear h1 hlen hl0 hX h0
      go_enter Tryz.func111, Tryz.ntmps111
      go_wp2_with fail
      refine HD.out.mono ?_
      rintro e w' ⟨rfl, rfl⟩
      go_wp2_with fail
      go_ret3
      exact ⟨rfl, Below.refl _ _⟩
    · have hc0 : (((Lat.digs s.data.toList).length : Int) == 0) = false := beq_eq_false_iff_ne.2 (by omega)
      by_cases h2 : 1 < (Lat.digs s.data.toList).length ∧ s.data.toList.head? = some 48
      · rw [Lat.num_nought h2.1 h2.2]
        have h48 : ((s[0].toNat : Int) == 48) = true := (head_eq s hpos 48).1 h2.2
        have hc1 := h2.1
        clear h2
        generalize min (Lat.val (Lat.digs s.data.toList)) 99 = X at *
        generalize (Lat.digs s.data.toList).length = D at *
        clear h1 hlen hl0 hX h0
        go_enter Tryz.func111, Tryz.ntmps111
        go_wp2_with fail
        refine HD.out.mono ?_
        rintro e w' ⟨rfl, rfl⟩
        go_wp2_with fail
        go_ret3
        exact ⟨rfl, Below.refl _ _⟩
      · have hq : ¬ 1 < (Lat.digs s.data.toList).length ∨ ((s[0].toNat : Int) == 48) = false := by
          by_cases h : 1 < (Lat.digs s.data.toList).length
          · right
            cases hb : ((s[0].toNat : Int) == 48)
            · rfl
            · exact absurd ⟨h, (head_eq s hpos 48).2 hb⟩ h2
          · exact Or.inl h
        by_cases h3 : most < Lat.val (Lat.digs s.data.toList)
        · rw [Lat.num_range h1 h2 h3]
          have hx := hX.1 h3
          generalize min (Lat.val (Lat.digs s.data.toList)) 99 = X at *
          generalize (Lat.digs s.data.toList).length = D at *
          clear h1 hlen hl0 hX h0 h2 h3
          rcases hq with hq | hq
          all_goals
            go_enter Tryz.func111, Tryz.ntmps111
            go_wp2_with fail
            refine HD.out.mono ?_
            rintro e w' ⟨rfl, rfl⟩
            go_wp2_with fail
            all_goals
              go_ret3
              exact ⟨rfl, Below.refl _ _⟩
        · rw [Lat.num_ok h1 h2 h3]
          have hx : ¬ (most : Int) < ((min (Lat.val (Lat.digs s.data.toList)) 99 : Nat) : Int) := fun h => h3 (hX.2 h)
          have HX := Lib.hid (show min (Lat.val (Lat.digs s.data.toList)) 99 = Lat.val (Lat.digs s.data.toList) from min_of_le h3 hm)
          have HR := Lib.hid (extract_drop s (Lat.digs s.data.toList).length)
          rw [HX.out] at hx HD
          generalize ofL (List.drop (Lat.digs s.data.toList).length s.data.toList) = R at *
          generalize Lat.val (Lat.digs s.data.toList) = X at *
          generalize (Lat.digs s.data.toList).length = D at *
          have hlen' : D ≤ s.size := hlen
          clear h1 hX h0 h2 h3 hlen
          rcases hq with hq | hq
          all_goals
            go_enter Tryz.func111, Tryz.ntmps111
            go_wp2_with fail
            refine HD.out.mono ?_
            rintro e w' ⟨rfl, rfl⟩
            go_wp2_with fail
            all_goals
              go_quiet (fail)
              go_wp2_with fail
              go_ret3
              exact ⟨ret_three rfl (by rw [HR.out]; rfl) rfl, drewN_below (Below.refl _ _) _⟩
end Go.Proofs.YtokljdaofjgihaaGreatDoor
