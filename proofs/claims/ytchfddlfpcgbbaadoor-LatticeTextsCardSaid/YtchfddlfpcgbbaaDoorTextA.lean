/-
  THE TEXT OF A LABEL, walked: the program's and the document's.
-/
import Derived.Test.YtchfddlfpcgbbaaDoorLatAwake
import Derived.Test.YtchfddlfpcgbbaaDoorTextMath
import Derived.Test.YtchfddlfpcgbbaaDoorShelfItoa
namespace Go.Proofs.YtchfddlfpcgbbaaDoor
open Go.ChangeShapes Go.WideShapes Go.ChangeAt Go.RowKit
open Go.Lib (decDigits)

/-- the library's table of powers lies -/
def Pow (w : World) : Prop := Lib.TabIs Tryd.prog w "internal/strconv.uint64pow10" .u64 Lib.pow10Tab
theorem gPow : Tryd.prog.globalNamed "internal/strconv.uint64pow10" = some 1 := by kernel_rfl
theorem Pow.pos {w : World} (h : Pow w) : 1 < w.heap.size := by
  unfold Pow Lib.TabIs World.var? at h
  rw [gPow, Option.bind_some] at h
  rcases Nat.lt_or_ge 1 w.heap.size with hlt | hge
  · exact hlt
  · rw [Array.getElem?_eq_none hge] at h; simp at h
theorem Pow.below {w w' : World} {B : Nat} (h : Pow w) (hb : Below B w w') (hB : 1 < B) : Pow w' := by
  unfold Pow Lib.TabIs World.var? at *
  rw [gPow, Option.bind_some] at *
  rw [hb.block 1 hB]
  exact h
theorem below_grow (w : World) (k : Nat) (os : Array Obj) : Below w.heap.size w (Sort.grow (w.drewN k) os) :=
  ⟨rfl, rfl, rfl, by simp [Sort.grow, World.drewN], fun i hi => by
    show (w.heap ++ os)[i]? = w.heap[i]?
    exact Array.getElem?_append_left hi⟩
theorem itoa_any (n : Nat) (w : World) (hn : n < 1000) (hP : Pow w) :
    Calls Tryd.prog 31 #[.int .i64 (n : Int)] w fun e w' => e = .returned (.string (ofL (decDigits n))) ∧ Below w.heap.size w w' := by
  refine (Tryd.strconv_Itoa (n : Int) (by omega) (by omega) w hP).mono ?_
  rintro e w' ⟨rfl, k, os, rfl⟩
  rw [Lib.itoa_nonneg]
  exact ⟨rfl, below_grow w k os⟩
theorem ret_str {a b : ByteArray} (h : a = b) : Ending.returned (.string a) = .returned (.string b) := by rw [h]
theorem and_bool (st i : Nat) (h : st < 4294967296) : (bits .and .u32 ((st : Int) / 2 ^ i) 1 == 1) = st.testBit i := by
  have e : (st : Int) / 2 ^ i = ((st / 2 ^ i : Nat) : Int) := shr_cast st i
  have hle : st / 2 ^ i ≤ st := Nat.div_le_self _ _
  rw [e, show (1 : Int) = ((1 : Nat) : Int) from rfl, u32_and_nat _ 1 (by omega) (by omega), nat_mask1, Nat.testBit_eq_decide_div_mod_eq, Bool.eq_iff_iff, beq_iff_eq, decide_eq_true_eq]
  omega
theorem ofL_app (a b : List UInt8) : ofL a ++ ofL b = ofL (a ++ b) := by
  apply ByteArray.ext
  rw [ByteArray.data_append]
  show a.toArray ++ b.toArray = (a ++ b).toArray
  simp
theorem ofL_cons (b : UInt8) (l : List UInt8) : (⟨#[b]⟩ : ByteArray) ++ ofL l = ofL (b :: l) := ofL_app [b] l

/-- what the loops over the compartments keep -/
def TextSt (lv st : Nat) (w : World) (g : Nat) (s i : Value) (wr : World) : Prop :=
  ∃ k : Nat, k + g = 32 ∧ i = .int .i64 (k : Int) ∧ s = .string (ofL (decDigits lv ++ Lat.bits st k)) ∧ Box w.heap.size (.int .u8 (lv : Int)) (.int .u32 (st : Int)) wr ∧ Below w.heap.size w wr ∧ w.heap.size < wr.heap.size
theorem TextSt.next {lv st : Nat} {w : World} {k g : Nat} {wr w' : World} {s : ByteArray} (hk : k + g = 32) (hg : 0 < g) (hs : s = ofL (decDigits lv ++ Lat.bits st (k + 1)))
    (b1 : Box w.heap.size (.int .u8 (lv : Int)) (.int .u32 (st : Int)) wr) (hB : Below w.heap.size w wr) (hz : w.heap.size < wr.heap.size) (hw : Below wr.heap.size wr w') :
    TextSt lv st w (g - 1) (.string s) (.int .i64 ((k : Int) + 1)) w' :=
  ⟨k + 1, by omega, by rw [Int.natCast_add]; rfl, by rw [hs], b1.below hw hz, Below.trans hB (hw.mono hB.size), Nat.lt_of_lt_of_le hz hw.size⟩
theorem text_len (lv st k : Nat) (h : lv < 256) (hk : k ≤ 32) : (ofL (decDigits lv ++ Lat.bits st k)).size ≤ 1000 := by
  have h1 := Lat.dec_le3 (u := lv) (by omega)
  have h2 := Lat.bits_le st k hk
  rw [ofL_size, List.length_append]; omega
theorem bits_no {st k : Nat} (h : st.testBit k = false) (lv : Nat) : ofL (decDigits lv ++ Lat.bits st k) = ofL (decDigits lv ++ Lat.bits st (k + 1)) := by
  rw [Lat.bits, Lat.piece, if_neg (by rw [h]; simp), List.append_nil]
theorem bits_yes {st k : Nat} (h : st.testBit k = true) (lv : Nat) : ofL (decDigits lv ++ Lat.bits st k) ++ ofL (58 :: decDigits k) = ofL (decDigits lv ++ Lat.bits st (k + 1)) := by
  rw [Lat.bits, Lat.piece, if_pos h, ofL_app, List.append_assoc]
set_option maxHeartbeats 1000000 in
theorem text_any' (lv st : Nat) (w : World) (hl : lv < 256) (hs : st < 4294967296) (hP : Pow w) :
    Calls Tryd.prog 11 #[.agg #[.int .u8 (lv : Int), .int .u32 (st : Int)]] w fun e w' => e = .returned (.string (ofL (Lat.textL lv st))) ∧ Below w.heap.size w w' := by
  have HI := Lib.hid (fun n W hn hp => itoa_any n W hn hp)
  have HP := Lib.hid hP
  have HA := Lib.hid (fun i => and_bool st i hs)
  have hb0 : Box w.heap.size (.int .u8 (lv : Int)) (.int .u32 (st : Int)) (w.alloc (.cells #[.int .u8 (lv : Int), .int .u32 (st : Int)] 24)) := Box.new _ _ _ _
  have HB0 := Lib.hid hb0
  have HL := Lib.hid (text_len lv st)
  have HF : Hid (ofL (decDigits lv ++ Lat.bits st 32) = ofL (Lat.textL lv st)) := rfl
  have H0 : Hid (ofL (decDigits lv ++ Lat.bits st 0) = ofL (decDigits lv)) := by rw [Lat.bits, List.append_nil]; exact (rfl : _ = _)
  clear hb0 hP
  generalize ofL (Lat.textL lv st) = T at *
  go_enter Tryd.func11, Tryd.ntmps11
  go_wp2_with fail
  refine (HI.out _ _ (by omega) (HP.out.below ((Below.refl _ _).alloc (Nat.le_refl _) _) HP.out.pos)).mono ?_
  rintro e w1 ⟨rfl, hb1⟩
  have hst : TextSt lv st w 32 (.string (ofL (decDigits lv))) (.int .i64 0) w1 := ⟨0, rfl, rfl, by rw [H0.out], HB0.out.below hb1 (by simp), Below.trans ((Below.refl w.heap.size w).alloc (Nat.le_refl _) _) (hb1.mono (by simp)), by have := hb1.size; simp at this; omega⟩
  have HST := Lib.hid hst
  clear hb1 hst
  go_wp2_with fail
  go_loopg [3, 9] 32 (fun g s i wr => TextSt lv st w g s i wr)
  case atStart => exact HST.out
  case round =>
    obtain ⟨k, hk, rfl, rfl, b1, hB, hz⟩ := hrel
    have B1 := Lib.hid b1
    have HB := Lib.hid hB
    obtain ⟨p0, p1, -⟩ := b1
    clear hB
    by_cases hlt : k < 32
    · have ha := HA.out k
      have hsz := HL.out k hl (by omega)
      cases hbit : st.testBit k with
      | false =>
        rw [hbit] at ha
        have HX := Lib.hid (bits_no hbit lv)
        clear hbit
        generalize ofL (decDigits lv ++ Lat.bits st k) = s at *
        go_wp2_with fail
        go_roundg (gk - 1)
        case rel => exact TextSt.next hk (by omega) HX.out B1.out HB.out hz (by first | exact Below.refl _ _ | exact (Below.refl _ _).drew)
        case measure => omega
      | true =>
        rw [hbit] at ha
        have HX := Lib.hid (bits_yes hbit lv)
        have hd : (ofL (decDigits k)).size ≤ 2 := by rw [ofL_size]; exact Lat.dec_le2 (by omega)
        have hd2 : (ofL (58 :: decDigits k)).size ≤ 3 := by rw [ofL_size, List.length_cons]; rw [ofL_size] at hd; omega
        have HC := Lib.hid (ofL_cons 58 (decDigits k))
        have HN := Lib.hid (HI.out k)
        clear hbit
        generalize ofL (decDigits lv ++ Lat.bits st k) = s at *
        generalize ofL (58 :: decDigits k) = c1 at *
        generalize ofL (decDigits k) = c0 at *
        go_wp2_with fail
        refine (HN.out _ (by omega) (HP.out.below HB.out HP.out.pos)).mono ?_
        rintro e w2 ⟨rfl, hb2⟩
        have HB2 := Lib.hid hb2
        clear hb2
        go_wp2_with fail
        go_roundg (gk - 1)
        case rel => exact TextSt.next hk (by omega) (by rw [HC.out, HX.out]) B1.out HB.out hz HB2.out
        case measure => omega
    · obtain rfl : k = 32 := by omega
      go_wp2_with fail
      go_ret
      exact ⟨ret_str HF.out, HB.out⟩
end Go.Proofs.YtchfddlfpcgbbaaDoor
