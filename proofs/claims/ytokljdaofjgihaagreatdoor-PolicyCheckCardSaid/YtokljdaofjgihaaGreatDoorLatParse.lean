/-
  THE LABEL OF A TEXT, walked.
-/
import Derived.Test.YtokljdaofjgihaaGreatDoorLatSet
namespace Go.Proofs.YtokljdaofjgihaaGreatDoor
open Go.ChangeShapes Go.WideShapes Go.ChangeAt Go.RowKit

theorem parse_bad {l : List UInt8} (h : (Lat.num 15 l).2.2 ≠ 0) : Lat.parse l = (0, 0, (Lat.num 15 l).2.2) := by unfold Lat.parse; rw [if_pos h]
theorem parse_set {l : List UInt8} (h : (Lat.num 15 l).2.2 = 0) (h1 : (Lat.set l.length 0 (Lat.num 15 l).2.1).2 ≠ 0) : Lat.parse l = (0, 0, (Lat.set l.length 0 (Lat.num 15 l).2.1).2) := by
  unfold Lat.parse; rw [if_neg (by omega), if_pos h1]
theorem parse_ok {l : List UInt8} (h : (Lat.num 15 l).2.2 = 0) (h1 : (Lat.set l.length 0 (Lat.num 15 l).2.1).2 = 0) : Lat.parse l = ((Lat.num 15 l).1, (Lat.set l.length 0 (Lat.num 15 l).2.1).1, 0) := by
  unfold Lat.parse; rw [if_neg (by omega), if_neg (by omega)]
theorem code_ne {n : Nat} (h : n ≠ 0) : ((n : Int) != 0) = true := by rw [bne_iff_ne]; omega
theorem ret_label {a b c a' b' c' : Value} (h1 : a = a') (h2 : b = b') (h3 : c = c') : Ending.returned (.tuple #[.agg #[a, b], c]) = .returned (.tuple #[.agg #[a', b'], c']) := by rw [h1, h2, h3]
/-- a label's box lies in block b -/
def Box (b : Nat) (x y : Value) (w : World) : Prop := w.cell? ⟨b, 0, none⟩ = some x ∧ w.cell? ⟨b, 1, none⟩ = some y ∧ ∀ j, w.frozen? ⟨b, j, none⟩ = false
theorem Box.new (x y : Value) (t : TypeId) (w : World) : Box w.heap.size x y (w.alloc (.cells #[x, y] t)) := ⟨cell_new _ _ _ _ _ rfl, cell_new _ _ _ _ _ rfl, fun _ => free_new _ _ _ _ _ rfl⟩
theorem Box.below {b B : Nat} {x y : Value} {w w' : World} (h : Box b x y w) (hb : Below B w w') (hB : b < B) : Box b x y w' :=
  ⟨(hb.cell (p := ⟨b, 0, none⟩) hB).trans h.1, (hb.cell (p := ⟨b, 1, none⟩) hB).trans h.2.1, fun j => (hb.frozen (p := ⟨b, j, none⟩) hB).trans (h.2.2 j)⟩
theorem code_eq {n : Nat} (h : n = 0) : ((n : Int) != 0) = false := by rw [h]; rfl
set_option maxHeartbeats 1000000 in
theorem parse_any (l : List UInt8) (w : World) (hl : l.length < 9223372036854775807) :
    Calls Tryz.prog 86 #[.string (ofL l)] w fun e w' => e = .returned (.tuple #[.agg #[.int .u8 ((Lat.parse l).1 : Int), .int .u32 ((Lat.parse l).2.1 : Int)], .int .i64 ((Lat.parse l).2.2 : Int)]) ∧ Below w.heap.size w w' := by
  have HN := Lib.hid (fun W => number_ofL l 15 W (by omega) (by omega))
  have hlen := Lat.num_len 15 l
  have hle := Lat.num_le 15 l
  have HP := Lib.hid (fun W => parseSet_any (Lat.num 15 l).2.1 l.length W (by omega) hlen)
  have hb0 : Box w.heap.size (.int .u8 0) (.int .u32 0) (w.alloc (.cells #[.int .u8 0, .int .u32 0] 70)) := Box.new _ _ _ _
  have HB0 := Lib.hid hb0
  clear hb0
  by_cases h1 : (Lat.num 15 l).2.2 = 0
  · have hc1 := code_eq h1
    by_cases h2 : (Lat.set l.length 0 (Lat.num 15 l).2.1).2 = 0
    · have HR := Lib.hid (parse_ok h1 h2)
      have hc2 := code_eq h2
      generalize Lat.parse l = R at *
      generalize (Lat.set l.length 0 (Lat.num 15 l).2.1) = S at *
      generalize Lat.num 15 l = N at *
      obtain ⟨c, rest, code⟩ := N
      obtain ⟨st, scode⟩ := S
      simp only at *
      generalize ofL l = s at *
      generalize l.length = n at *
      clear hlen h1 h2
      go_enter Tryz.func86, Tryz.ntmps86
      go_wp2_with fail
      refine (HN.out _).mono ?_
      rintro e w1 ⟨rfl, hb1⟩
      have HZ := Lib.hid (show w.heap.size < w1.heap.size by have := hb1.size; simp at this; omega)
      have HB1 := Lib.hid (HB0.out.below hb1 (by simp))
      have HL1 := Lib.hid (Below.trans ((Below.refl w.heap.size w).alloc (Nat.le_refl _) _) (hb1.mono (by simp)))
      clear hb1
      go_wp2_with fail
      refine (HP.out _).mono ?_
      rintro e w2 ⟨rfl, hb2⟩
      obtain ⟨k0, k1, k2⟩ := HB1.out.below hb2 HZ.out
      have HL2 := Lib.hid (Below.trans HL1.out (hb2.mono (Nat.le_of_lt HZ.out)))
      clear hb2
      go_wp2_with fail
      refine bodyPost_ret (v := .tuple #[.agg #[.int .u8 (c : Int), .int .u32 (st : Int)], .int .i64 0]) (by simp [results, Tryz.results86, go_sem, k0, k1]) rfl ⟨by rw [HR.out]; rfl, (HL2.out.setCell (by simp) _).setCell (by simp) _⟩
    · have HR := Lib.hid (parse_set h1 h2)
      have hc2 := code_ne h2
      generalize Lat.parse l = R at *
      generalize (Lat.set l.length 0 (Lat.num 15 l).2.1) = S at *
      generalize Lat.num 15 l = N at *
      obtain ⟨c, rest, code⟩ := N
      obtain ⟨st, scode⟩ := S
      simp only at *
      generalize ofL l = s at *
      generalize l.length = n at *
      clear hlen h1 h2
      go_enter Tryz.func86, Tryz.ntmps86
      go_wp2_with fail
      refine (HN.out _).mono ?_
      rintro e w1 ⟨rfl, hb1⟩
      have HZ := Lib.hid (show w.heap.size < w1.heap.size by have := hb1.size; simp at this; omega)
      have HB1 := Lib.hid (HB0.out.below hb1 (by simp))
      have HL1 := Lib.hid (Below.trans ((Below.refl w.heap.size w).alloc (Nat.le_refl _) _) (hb1.mono (by simp)))
      clear hb1
      go_wp2_with fail
      refine (HP.out _).mono ?_
      rintro e w2 ⟨rfl, hb2⟩
      obtain ⟨k0, k1, k2⟩ := HB1.out.below hb2 HZ.out
      have HL2 := Lib.hid (Below.trans HL1.out (hb2.mono (Nat.le_of_lt HZ.out)))
      clear hb2
      go_wp2_with fail
      refine bodyPost_ret (v := .tuple #[.agg #[.int .u8 0, .int .u32 0], .int .i64 (scode : Int)]) (by simp [results, Tryz.results86, go_sem, k0, k1]) rfl ⟨by rw [HR.out]; rfl, (HL2.out.setCell (by simp) _).setCell (by simp) _⟩
  · have hc1 := code_ne h1
    have HR := Lib.hid (parse_bad h1)
    clear HP
    generalize Lat.parse l = R at *
    generalize Lat.num 15 l = N at *
    obtain ⟨c, rest, code⟩ := N
    simp only at *
    generalize ofL l = s at *
    generalize l.length = n at *
    clear hlen h1
    go_enter Tryz.func86, Tryz.ntmps86
    go_wp2_with fail
    refine (HN.out _).mono ?_
    rintro e w1 ⟨rfl, hb1⟩
    have HZ := Lib.hid (show w.heap.size < w1.heap.size by have := hb1.size; simp at this; omega)
    obtain ⟨k0, k1, k2⟩ := HB0.out.below hb1 (by simp)
    have HL1 := Lib.hid (Below.trans ((Below.refl w.heap.size w).alloc (Nat.le_refl _) _) (hb1.mono (by simp)))
    clear hb1
    go_wp2_with fail
    refine bodyPost_ret (v := .tuple #[.agg #[.int .u8 0, .int .u32 0], .int .i64 (code : Int)]) (by simp [results, Tryz.results86, go_sem, k0, k1]) rfl ⟨by rw [HR.out]; rfl, (HL1.out.setCell (by simp) _).setCell (by simp) _⟩
end Go.Proofs.YtokljdaofjgihaaGreatDoor
