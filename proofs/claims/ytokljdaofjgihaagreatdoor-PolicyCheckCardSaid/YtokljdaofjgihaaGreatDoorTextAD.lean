/-
  THE TEXT OF A LABEL, walked: the program's and the document's.
  THE DOCUMENT's OWN TEXT OF A LABEL, walked.
  THE DOCUMENT's OWN NUMBER at the front of a text, walked.
  THE DOCUMENT's OWN LABEL OF A TEXT, walked.
-/
import Derived.Test.YtokljdaofjgihaaGreatDoorLatAwake
import Derived.Test.YtokljdaofjgihaaGreatDoorTextMath
import Derived.Test.YtokljdaofjgihaaGreatDoorShelfItoa
import Derived.Deep.CutBlock
import Derived.Deep.DeepCutAuto
import Derived.BigQuiet
import Derived.Deep.QuietTactic
import Derived.Deep.RegionHeld3
namespace Go.Proofs.YtokljdaofjgihaaGreatDoor
open Go.ChangeShapes Go.WideShapes Go.ChangeAt Go.RowKit
open Go.Lib (decDigits)

/-- the library's table of powers lies -/
def Pow (w : World) : Prop := Lib.TabIs Tryz.prog w "internal/strconv.uint64pow10" .u64 Lib.pow10Tab
theorem gPow : Tryz.prog.globalNamed "internal/strconv.uint64pow10" = some 0 := by kernel_rfl
theorem Pow.pos {w : World} (h : Pow w) : 0 < w.heap.size := by
  unfold Pow Lib.TabIs World.var? at h
  rw [gPow, Option.bind_some] at h
  rcases Nat.lt_or_ge 0 w.heap.size with hlt | hge
  · exact hlt
  · rw [Array.getElem?_eq_none hge] at h; simp at h
theorem Pow.below {w w' : World} {B : Nat} (h : Pow w) (hb : Below B w w') (hB : 0 < B) : Pow w' := by
  unfold Pow Lib.TabIs World.var? at *
  rw [gPow, Option.bind_some] at *
  rw [hb.block 0 hB]
  exact h
theorem below_grow (w : World) (k : Nat) (os : Array Obj) : Below w.heap.size w (Sort.grow (w.drewN k) os) :=
  ⟨rfl, rfl, rfl, by simp [Sort.grow, World.drewN], fun i hi => by
    show (w.heap ++ os)[i]? = w.heap[i]?
    exact Array.getElem?_append_left hi⟩
theorem itoa_any (n : Nat) (w : World) (hn : n < 1000) (hP : Pow w) :
    Calls Tryz.prog 40 #[.int .i64 (n : Int)] w fun e w' => e = .returned (.string (ofL (decDigits n))) ∧ Below w.heap.size w w' := by
  refine (Tryz.strconv_Itoa (n : Int) (by omega) (by omega) w hP).mono ?_
  rintro e w' ⟨rfl, k, os, rfl⟩
  rw [Lib.itoa_nonneg]
  exact ⟨rfl, below_grow w k os⟩
theorem and_bool (st i : Nat) (h : st < 4294967296) : (bits .and .u32 ((st : Int) / 2 ^ i) 1 == 1) = st.testBit i := by
  have e : (st : Int) / 2 ^ i = ((st / 2 ^ i : Nat) : Int) := shr_cast st i
  have hle : st / 2 ^ i ≤ st := Nat.div_le_self _ _
  rw [e, show (1 : Int) = ((1 : Nat) : Int) from rfl, u32_and_nat _ 1 (by omega) (by omega), nat_mask1, Nat.testBit_eq_decide_div_mod_eq, Bool.eq_iff_iff, beq_iff_eq, decide_eq_true_eq]
  omega
/-- what the loops over the compartments keep -/
def TextSt (lv st : Nat) (w : World) (g : Nat) (s i : Value) (wr : World) : Prop :=
  ∃ k : Nat, k + g = 32 ∧ i = .int .i64 (k : Int) ∧ s = .string (ofL (decDigits lv ++ Lat.bits st k)) ∧ Box w.heap.size (.int .u8 (lv : Int)) (.int .u32 (st : Int)) wr ∧ Below w.heap.size w wr ∧ w.heap.size < wr.heap.size
theorem TextSt.next {lv st : Nat} {w : World} {k g : Nat} {wr w' : World} {s : ByteArray} (hk : k + g = 32) (hg : 0 < g) (hs : s = ofL (decDigits lv ++ Lat.bits st (k + 1)))
    (b1 : Box w.heap.size (.int .u8 (lv : Int)) (.int .u32 (st : Int)) wr) (hB : Below w.heap.size w wr) (hz : w.heap.size < wr.heap.size) (hw : Below wr.heap.size wr w') :
    TextSt lv st w (g - 1) (.string s) (.int .i64 ((k : Int) + 1)) w' :=
  ⟨k + 1, by omega, by rw [Int.natCast_add]; rfl, by rw [hs], b1.below hw hz, Below.trans hB (hw.mono hB.size), Nat.lt_of_lt_of_le hz hw.size⟩
theorem text_len (lv st k : Nat) (h : lv < 256) (hk : k ≤ 32) : (ofL (decDigits lv ++ Lat.bits st k)).size ≤ 1000 := by
  have h1 := Lat.dec_le3 (u := lv) (by omega)
  have h2 := Lat.bits_le st k hk
  rw [ofL_size, List.length_append]; omega
theorem bits_no {st k : Nat} (h : st.testBit k = false) (lv : Nat) : ofL (decDigits lv ++ Lat.bits st k) = ofL (decDigits lv ++ Lat.bits st (k + 1)) := by
  rw [Lat.bits, Lat.piece, if_neg (by rw [h]; simp), List.append_nil]
theorem bits_yes {st k : Nat} (h : st.testBit k = true) (lv : Nat) : ofL (decDigits lv ++ Lat.bits st k) ++ ofL (58 :: decDigits k) = ofL (decDigits lv ++ Lat.bits st (k + 1)) := by
  rw [Lat.bits, Lat.piece, if_pos h, ofL_app, List.append_assoc]
set_option maxHeartbeats 1000000 in
theorem text_any' (lv st : Nat) (w : World) (hl : lv < 256) (hs : st < 4294967296) (hP : Pow w) :
    Calls Tryz.prog 42 #[.agg #[.int .u8 (lv : Int), .int .u32 (st : Int)]] w fun e w' => e = .returned (.string (ofL (Lat.textL lv st))) ∧ Below w.heap.size w w' := by
  have HI := Lib.hid (fun n W hn hp => itoa_any n W hn hp)
  have HP := Lib.hid hP
  have HA := Lib.hid (fun i => and_bool st i hs)
  have hb0 : Box w.heap.size (.int .u8 (lv : Int)) (.int .u32 (st : Int)) (w.alloc (.cells #[.int .u8 (lv : Int), .int .u32 (st : Int)] 70)) := Box.new _ _ _ _
  have HB0 := Lib.hid hb0
  have HL := Lib.hid (text_len lv st)
  have HF : Hid (ofL (decDigits lv ++ Lat.bits st 32) = ofL (Lat.textL lv st)) := rfl
  have H0 : Hid (ofL (decDigits lv ++ Lat.bits st 0) = ofL (decDigits lv)) := by rw [Lat.bits, List.append_nil]; exact (rfl : _ = _)
  clear hb0 hP
  generalize ofL (Lat.textL lv st) = T at *
  go_enter Tryz.func42, Tryz.ntmps42
  go_wp2_with fail
  refine (HI.out _ _ (by omega) (HP.out.below ((Below.refl _ _).alloc (Nat.le_refl _) _) HP.out.pos)).mono ?_
  rintro e w1 ⟨rfl, hb1⟩
  have hst : TextSt lv st w 32 (.string (ofL (decDigits lv))) (.int .i64 0) w1 := ⟨0, rfl, rfl, by rw [H0.out], HB0.out.below hb1 (by simp), Below.trans ((Below.refl w.heap.size w).alloc (Nat.le_refl _) _) (hb1.mono (by simp)), by have := hb1.size; simp at this; omega⟩
  have HST := Lib.hid hst
  clear hb1 hst
  go_wp2_with fail
  go_loopg [3, 9] 32 (fun g s i wr => TextSt lv st w g s i wr)
  case atStart => exact HST.out
  case round =>
    obtain ⟨k, hk, rfl, rfl, b1, hB, hz⟩ := hrel
    have B1 := Lib.hid b1
    have HB := Lib.hid hB
    obtain ⟨p0, p1, -⟩ := b1
    clear hB
    by_cases hlt : k < 32
    · have ha := HA.out k
      have hsz := HL.out k hl (by omega)
      cases hbit : st.testBit k with
      | false =>
        rw [hbit] at ha
        have HX := Lib.hid (bits_no hbit lv)
        clear hbit
        generalize ofL (decDigits lv ++ Lat.bits st k) = s at *
        go_wp2_with fail
        go_roundg (gk - 1)
        case rel => exact TextSt.next hk (by omega) HX.out B1.out HB.out hz (by first | exact Below.refl _ _ | exact (Below.refl _ _).drew)
        case measure => omega
      | true =>
        rw [hbit] at ha
        have HX := Lib.hid (bits_yes hbit lv)
        have hd : (ofL (decDigits k)).size ≤ 2 := by rw [ofL_size]; exact Lat.dec_le2 (by omega)
        have hd2 : (ofL (58 :: decDigits k)).size ≤ 3 := by rw [ofL_size, List.length_cons]; rw [ofL_size] at hd; omega
        have HC := Lib.hid (ofL_cons 58 (decDigits k))
        have HN := Lib.hid (HI.out k)
        clear hbit
        generalize ofL (decDigits lv ++ Lat.bits st k) = s at *
        generalize ofL (58 :: decDigits k) = c1 at *
        generalize ofL (decDigits k) = c0 at *
        go_wp2_with fail
        refine (HN.out _ (by omega) (HP.out.below HB.out HP.out.pos)).mono ?_
        rintro e w2 ⟨rfl, hb2⟩
        have HB2 := Lib.hid hb2
        clear hb2
        go_wp2_with fail
        go_roundg (gk - 1)
        case rel => exact TextSt.next hk (by omega) (by rw [HC.out, HX.out]) B1.out HB.out hz HB2.out
        case measure => omega
    · obtain rfl : k = 32 := by omega
      go_wp2_with fail
      go_ret
      exact ⟨ret_str HF.out, HB.out⟩
end Go.Proofs.YtokljdaofjgihaaGreatDoor
namespace Go.Proofs.YtokljdaofjgihaaGreatDoor
open Go.ChangeShapes Go.WideShapes Go.ChangeAt Go.RowKit
open Go.Lib (decDigits)

theorem digit_cut : ∀ n, n < 10 → (⟨#[48, 49, 50, 51, 52, 53, 54, 55, 56, 57]⟩ : ByteArray).extract n (n + 1) = ofL [UInt8.ofNat (48 + n)] := by decide
set_option maxHeartbeats 1000000 in
theorem digits_ref : ∀ n : Nat, n < 1000 → ∀ w : World, Calls Tryz.prog 81 #[.int .i64 (n : Int)] w fun e w' => e = .returned (.string (ofL (decDigits n))) ∧ w = w' := by
  intro n
  induction n using Nat.strongRecOn with
  | _ n ih =>
    intro hn w
    by_cases h : n < 10
    · have HC := Lib.hid (digit_cut n h)
      have HD := Lib.hid (congrArg ofL (Lat.dec_small h))
      generalize ofL (decDigits n) = D at *
      clear ih
      go_enter Tryz.func81, Tryz.ntmps81
      go_wp2_with fail
      go_ret
      exact ⟨ret_str (by rw [HD.out]; exact HC.out), rfl⟩
    · have HD := Lib.hid (congrArg ofL (Lat.dec_big h))
      have e1 : (n : Int) / 10 = ((n / 10 : Nat) : Int) := by omega
      have e2 : (n : Int) % 10 = ((n % 10 : Nat) : Int) := by omega
      have H1 := Lib.hid (fun W => ih (n / 10) (by omega) (by omega) W)
      have H2 := Lib.hid (fun W => ih (n % 10) (by omega) (by omega) W)
      rw [← e1] at H1
      rw [← e2] at H2
      have z1 : (ofL (decDigits (n / 10))).size ≤ 10 := by rw [ofL_size]; have := Lat.dec_le3 (u := n / 10) (by omega); omega
      have z2 : (ofL (decDigits (n % 10))).size ≤ 10 := by rw [ofL_size]; have := Lat.dec_le3 (u := n % 10) (by omega); omega
      have HS := Lib.hid (show ofL (decDigits (n / 10)) ++ ofL (decDigits (n % 10)) = ofL (decDigits n) by rw [ofL_app, Lat.dec_small (u := n % 10) (by omega), ← Lat.dec_big h])
      generalize ofL (decDigits n) = D at *
      generalize ofL (decDigits (n / 10)) = D1 at *
      generalize ofL (decDigits (n % 10)) = D2 at *
      clear ih HD e1 e2
      go_enter Tryz.func81, Tryz.ntmps81
      go_wp2_with fail
      refine (H1.out _).mono ?_
      rintro e w' ⟨rfl, rfl⟩
      go_wp2_with fail
      refine (H2.out _).mono ?_
      rintro e w' ⟨rfl, rfl⟩
      go_wp2_with fail
      go_ret
      exact ⟨ret_str HS.out, rfl⟩
theorem ofL_colon {a : ByteArray} (l : List UInt8) : a ++ (⟨#[58]⟩ : ByteArray) ++ ofL l = a ++ ofL (58 :: l) := by
  rw [ByteArray.append_assoc, ofL_cons]
set_option maxHeartbeats 1000000 in
theorem rtext_any (lv st : Nat) (w : World) (hl : lv < 256) :
    Calls Tryz.prog 53 #[.agg #[.int .u8 (lv : Int), .int .u32 (st : Int)]] w fun e w' => e = .returned (.string (ofL (Lat.textL lv st))) ∧ Below w.heap.size w w' := by
  have HI := Lib.hid digits_ref
  have HA := Lib.hid (fun i W => has_any lv st i W)
  have hb0 : Box w.heap.size (.int .u8 (lv : Int)) (.int .u32 (st : Int)) (w.alloc (.cells #[.int .u8 (lv : Int), .int .u32 (st : Int)] 70)) := Box.new _ _ _ _
  have HL := Lib.hid (text_len lv st)
  have HF : Hid (ofL (decDigits lv ++ Lat.bits st 32) = ofL (Lat.textL lv st)) := rfl
  have H0 : Hid (ofL (decDigits lv ++ Lat.bits st 0) = ofL (decDigits lv)) := by rw [Lat.bits, List.append_nil]; exact (rfl : _ = _)
  have hst : TextSt lv st w 32 (.string (ofL (decDigits lv))) (.int .i64 0) (w.alloc (.cells #[.int .u8 (lv : Int), .int .u32 (st : Int)] 70)) := ⟨0, rfl, rfl, by rw [H0.out], hb0, (Below.refl w.heap.size w).alloc (Nat.le_refl _) _, by simp⟩
  have HST := Lib.hid hst
  clear hb0 hst
  generalize ofL (Lat.textL lv st) = T at *
  go_enter Tryz.func53, Tryz.ntmps53
  go_wp2_with fail
  refine (HI.out lv (by omega) _).mono ?_
  rintro e w' ⟨rfl, rfl⟩
  go_wp2_with fail
  go_loopg [3, 4] 32 (fun g s i wr => TextSt lv st w g s i wr)
  case atStart => exact HST.out
  case round =>
    obtain ⟨k, hk, rfl, rfl, b1, hB, hz⟩ := hrel
    have B1 := Lib.hid b1
    have HB := Lib.hid hB
    obtain ⟨p0, p1, -⟩ := b1
    clear hB
    by_cases hlt : k < 32
    · have hsz := HL.out k hl (by omega)
      have HK := Lib.hid (fun W => HA.out k W hlt)
      cases hbit : st.testBit k with
      | false =>
        rw [hbit] at HK
        have HX := Lib.hid (bits_no hbit lv)
        clear hbit
        generalize ofL (decDigits lv ++ Lat.bits st k) = s at *
        go_wp2_with fail
        refine (HK.out _).mono ?_
        rintro e w2 ⟨rfl, hb2⟩
        have HB2 := Lib.hid hb2
        clear hb2
        go_wp2_with fail
        go_roundg (gk - 1)
        case rel => exact TextSt.next hk (by omega) HX.out B1.out HB.out hz HB2.out
        case measure => omega
      | true =>
        rw [hbit] at HK
        have HX := Lib.hid (bits_yes hbit lv)
        have hd : (ofL (decDigits k)).size ≤ 2 := by rw [ofL_size]; exact Lat.dec_le2 (by omega)
        have HC := Lib.hid (fun a : ByteArray => ofL_colon (a := a) (decDigits k))
        have HN := Lib.hid (fun W => HI.out k (by omega) W)
        clear hbit
        generalize ofL (decDigits lv ++ Lat.bits st k) = s at *
        have hz58 : (s ++ (⟨#[58]⟩ : ByteArray)).size ≤ 1001 := by rw [ByteArray.size_append]; show s.size + 1 ≤ 1001; omega
        generalize ofL (58 :: decDigits k) = c1 at *
        generalize ofL (decDigits k) = c0 at *
        go_wp2_with fail
        refine (HK.out _).mono ?_
        rintro e w2 ⟨rfl, hb2⟩
        have HB2 := Lib.hid hb2
        clear hb2
        go_wp2_with fail
        refine (HN.out _).mono ?_
        rintro e w' ⟨rfl, rfl⟩
        go_wp2_with fail
        go_roundg (gk - 1)
        case rel => exact TextSt.next hk (by omega) (by rw [HC.out, HX.out]) B1.out HB.out hz HB2.out
        case measure => omega
    · obtain rfl : k = 32 := by omega
      go_wp2_with fail
      go_ret
      exact ⟨ret_str HF.out, HB.out⟩
end Go.Proofs.YtokljdaofjgihaaGreatDoor
namespace Go.Proofs.YtokljdaofjgihaaGreatDoor
open Go.ChangeShapes Go.WideShapes Go.ChangeAt Go.RowKit

/-- where the document's number ends -/
def refEnd (most : Nat) (l : List UInt8) (k : Nat) : Nat := if (Lat.num most (l.drop k)).2.2 = 0 then l.length - (Lat.num most (l.drop k)).2.1.length else k
theorem ret3 {a b c d e f : Int} (h1 : a = d) (h2 : b = e) (h3 : c = f) : Ending.returned (.tuple #[.int .i64 a, .int .i64 b, .int .i64 c]) = .returned (.tuple #[.int .i64 d, .int .i64 e, .int .i64 f]) := by rw [h1, h2, h3]
theorem drop_get (l : List UInt8) (k j : Nat) (h : k + j < l.length) : (l.drop k)[j]'(by rw [List.length_drop]; omega) = l[k + j] := by rw [List.getElem_drop]
/-- what the loop over the digits keeps -/
def RNumSt (most : Nat) (l : List UInt8) (k D g : Nat) (e n : Value) : Prop :=
  ∃ p : Nat, k ≤ p ∧ p + g = k + D ∧ e = .int .i64 (p : Int) ∧ n = .int .i64 ((Lat.acc most ((l.drop k).take (p - k)) : Nat) : Int)
theorem acc_le (most : Nat) (l : List UInt8) (hd : ∀ b ∈ l, Lat.dig b = true) : Lat.acc most l ≤ 10 * most + 9 := by
  rcases Lat.acc_val most l hd with h | h <;> omega
theorem take_dig (m : List UInt8) (j : Nat) (h : j ≤ (Lat.digs m).length) : ∀ b ∈ m.take j, Lat.dig b = true := by
  intro b hb
  have e : m.take j = (Lat.digs m).take j := by
    conv => lhs; rw [← List.take_append_drop (Lat.digs m).length m, Lat.take_digs, List.take_append_of_le_length h]
  rw [e] at hb
  exact Lat.digs_dig m b (List.mem_of_mem_take hb)
theorem acc_next (most : Nat) (l : List UInt8) (k p : Nat) (hk : k ≤ p) (h : p < l.length) :
    Lat.acc most ((l.drop k).take (p + 1 - k)) = if Lat.acc most ((l.drop k).take (p - k)) ≤ most then Lat.acc most ((l.drop k).take (p - k)) * 10 + (l[p].toNat - 48) else Lat.acc most ((l.drop k).take (p - k)) := by
  have h1 : p - k < (l.drop k).length := by rw [List.length_drop]; omega
  have h2 : (l.drop k)[p - k] = l[p] := by
    rw [List.getElem_drop]; congr 1; omega
  rw [show p + 1 - k = (p - k) + 1 by omega, List.take_succ_eq_append_getElem h1, Lat.acc_snoc, h2]
theorem dig_in (l : List UInt8) (k p : Nat) (hk : k ≤ p) (hp : p < k + (Lat.digs (l.drop k)).length) (h : p < l.length) : 48 ≤ l[p].toNat ∧ l[p].toNat ≤ 57 := by
  have h1 : p - k < (l.drop k).length := by rw [List.length_drop]; omega
  have := Lat.dig_at (l.drop k) (p - k) h1 (by omega)
  have h2 : (l.drop k)[p - k] = l[p] := by
    rw [List.getElem_drop]; congr 1; omega
  rw [h2] at this
  exact Lat.dig_bounds this
theorem dig_out (l : List UInt8) (k : Nat) (h : k + (Lat.digs (l.drop k)).length < l.length) : ¬ (48 ≤ l[k + (Lat.digs (l.drop k)).length].toNat ∧ l[k + (Lat.digs (l.drop k)).length].toNat ≤ 57) := by
  have h1 : (Lat.digs (l.drop k)).length < (l.drop k).length := by rw [List.length_drop]; omega
  have := Lat.dig_not (l.drop k) h1
  have h2 : (l.drop k)[(Lat.digs (l.drop k)).length] = l[k + (Lat.digs (l.drop k)).length] := List.getElem_drop ..
  rw [h2] at this
  intro hh
  rw [Lat.dig_of hh.1 hh.2] at this
  cases this
set_option maxHeartbeats 2000000 in
/-- the loop over the digits: where it ends, the number counted so far -/
theorem rnumber_any (l : List UInt8) (k most : Nat) (w : World) (hl : l.length ≤ 100000) (hk : k ≤ l.length) (hm : most ≤ 31) :
    Calls Tryz.prog 110 #[.string (ofL l), .int .i64 (k : Int), .int .i64 (most : Int)] w fun e w' => e = .returned (.tuple #[.int .i64 (refEnd most l k : Int), .int .i64 ((Lat.num most (l.drop k)).1 : Int), .int .i64 ((Lat.num most (l.drop k)).2.2 : Int)]) ∧ w = w' := by
  have hD : (Lat.digs (l.drop k)).length ≤ l.length - k := by have := Lat.digs_le (l.drop k); rw [List.length_drop] at this; exact this
  have hsz : (ofL l).size = l.length := ofL_size l
  have HIN := Lib.hid (dig_in l k)
  have HOUT := Lib.hid (dig_out l k)
  have HNX := Lib.hid (acc_next most l k)
  have HTK := Lib.hid (fun j hj => acc_le most _ (take_dig (l.drop k) j hj))
  have hget : ∀ p (h : p < l.length), (ofL l)[p]'(by rw [hsz]; exact h) = l[p] := fun p h => rfl
  have HG := Lib.hid hget
  have hst : RNumSt most l k (Lat.digs (l.drop k)).length (Lat.digs (l.drop k)).length (.int .i64 (k : Int)) (.int .i64 0) := ⟨k, Nat.le_refl _, rfl, rfl, by rw [Nat.sub_self]; rfl⟩
  have HST := Lib.hid hst
  clear hget hst
  go_enter Tryz.func110, Tryz.ntmps110
  go_wp2_with fail
  go_loopg [9, 10] (Lat.digs (l.drop k)).length (fun g e n wr => RNumSt most l k (Lat.digs (l.drop k)).length g e n ∧ wr = w)
  case atStart => exact ⟨HST.out, rfl⟩
  case round =>
    obtain ⟨⟨p, hkp, hpg, rfl, rfl⟩, rfl⟩ := hrel
    by_cases hlt : p < k + (Lat.digs (l.drop k)).length
    · have hpl : p < l.length := by omega
      have hps : p < (ofL l).size := by omega
      have hb := HIN.out p hkp hlt hpl
      have hb1 : 48 ≤ (ofL l)[p].toNat := by rw [HG.out p hpl]; exact hb.1
      have hb2 : (ofL l)[p].toNat ≤ 57 := by rw [HG.out p hpl]; exact hb.2
      have HN := Lib.hid (HNX.out p hkp hpl)
      have hA := HTK.out (p - k) (by omega)
      have HGP := Lib.hid (HG.out p hpl)
      clear hb
      generalize Lat.acc most ((l.drop k).take (p - k)) = A at *
      by_cases hle : A ≤ most
      · rw [if_pos hle] at HN
        go_wp2_with fail
        go_roundg (gk - 1)
        case rel => exact ⟨⟨p + 1, by omega, by omega, by go_num, by rw [HN.out, ← HGP.out]; go_num⟩, rfl⟩
        case measure => omega
      · rw [if_neg hle] at HN
        go_wp2_with fail
        go_roundg (gk - 1)
        case rel => exact ⟨⟨p + 1, by omega, by omega, by go_num, by rw [HN.out]⟩, rfl⟩
        case measure => omega
    · have e : p = k + (Lat.digs (l.drop k)).length := by omega
      have e0 : (l.drop k).take (p - k) = Lat.digs (l.drop k) := by rw [e, Nat.add_sub_cancel_left]; exact Lat.take_digs _
      rw [e0]
      have hav := Lat.acc_val most _ (Lat.digs_dig (l.drop k))
      have hx : (∃ h : p < (ofL l).size, 48 ≤ (ofL l)[p].toNat ∧ ¬ (ofL l)[p].toNat ≤ 57) ∨ (∃ h : p < (ofL l).size, ¬ 48 ≤ (ofL l)[p].toNat) ∨ ¬ p < (ofL l).size := by
        by_cases hend : p < l.length
        · have ho := HOUT.out (by omega)
          have hb : ¬ (48 ≤ l[p].toNat ∧ l[p].toNat ≤ 57) := by subst e; exact ho
          by_cases h48 : 48 ≤ l[p].toNat
          · exact Or.inl ⟨by omega, h48, fun h => hb ⟨h48, h⟩⟩
          · exact Or.inr (Or.inl ⟨by omega, h48⟩)
        · exact Or.inr (Or.inr (by omega))
      have HX := Lib.hid hx
      clear hx
      have HFIN := Lib.hid (show (Lat.num most (l.drop k)).2.2 = 0 → refEnd most l k = l.length - (Lat.num most (l.drop k)).2.1.length from fun h => by unfold refEnd; rw [if_pos h])
      have HBAD := Lib.hid (show (Lat.num most (l.drop k)).2.2 ≠ 0 → refEnd most l k = k from fun h => by unfold refEnd; rw [if_neg h])
      have hdl : (l.drop k).length = l.length - k := List.length_drop
      clear e0
      by_cases h0 : (l.drop k).length = 0
      · have hR := Lat.num_short (most := most) h0
        have HE := Lib.hid (HBAD.out (by rw [hR]; simp))
        have HR := Lib.hid hR
        have hpk : p = k := by omega
        have hks : ¬ k < (ofL l).size := by omega
        clear e HFIN HBAD hR hdl h0
        subst hpk
        rcases HX.out with ⟨h, h1, h2⟩ | ⟨h, h1⟩ | h
        · exact absurd h hks
        · exact absurd h hks
        · clear hks hav
          generalize Lat.acc most (Lat.digs (l.drop p)) = A at *
          go_wp2_with fail
          go_ret3
          exact ⟨ret_three (by rw [HE.out]; rfl) (by rw [HR.out]; rfl) (by rw [HR.out]; rfl), rfl⟩
      · by_cases h1 : (Lat.digs (l.drop k)).length = 0
        · have hR := Lat.num_form (most := most) h0 h1
          have HE := Lib.hid (HBAD.out (by rw [hR]; simp))
          have HR := Lib.hid hR
          have hpk : p = k := by omega
          have hks : k < (ofL l).size := by omega
          clear e HFIN HBAD hR hdl h0 h1
          subst hpk
          rcases HX.out with ⟨h, h1, h2⟩ | ⟨h, h1⟩ | h
          · clear hks hav
            generalize Lat.acc most (Lat.digs (l.drop p)) = A at *
            go_wp2_with fail
            go_ret3
            exact ⟨ret_three (by rw [HE.out]; rfl) (by rw [HR.out]; rfl) (by rw [HR.out]; rfl), rfl⟩
          · clear hks hav
            generalize Lat.acc most (Lat.digs (l.drop p)) = A at *
            go_wp2_with fail
            go_ret3
            exact ⟨ret_three (by rw [HE.out]; rfl) (by rw [HR.out]; rfl) (by rw [HR.out]; rfl), rfl⟩
          · exact absurd hks h
        · have hkp' : ¬ p = k := by omega
          have hkl : k < l.length := by omega
          have hks : k < (ofL l).size := by omega
          have hh : (l.drop k).head? = some l[k] := by
            rw [List.head?_eq_getElem?, List.getElem?_eq_getElem (by omega)]
            rw [List.getElem_drop]; rfl
          have heqk : ((p : Int) == (k : Int)) = false := beq_eq_false_iff_ne.2 (by omega)
          by_cases h2 : 1 < (Lat.digs (l.drop k)).length ∧ (l.drop k).head? = some 48
          · have hR := Lat.num_nought (most := most) h2.1 h2.2
            have HE := Lib.hid (HBAD.out (by rw [hR]; simp))
            have HR := Lib.hid hR
            have hk48 : (((ofL l)[k].toNat : Int) == 48) = true := by
              have := h2.2
              rw [hh, Option.some_inj] at this
              have e48 : (ofL l)[k] = 48 := this
              rw [e48]; rfl
            have hgt : k + 1 < p := by have := h2.1; omega
            clear e HFIN HBAD hR hdl h0 h1 h2 hav hkp' hh
            generalize Lat.acc most (Lat.digs (l.drop k)) = A at *
            rcases HX.out with ⟨h, h1, h2⟩ | ⟨h, h1⟩ | h
            all_goals
              go_wp2_with fail
              go_ret3
              exact ⟨ret_three (by rw [HE.out]; rfl) (by rw [HR.out]; rfl) (by rw [HR.out]; rfl), rfl⟩
          · have hq : ¬ k + 1 < p ∨ (((ofL l)[k].toNat : Int) == 48) = false := by
              by_cases hg : k + 1 < p
              · right
                cases hb : (((ofL l)[k].toNat : Int) == 48)
                · rfl
                · exfalso
                  refine h2 ⟨by omega, ?_⟩
                  rw [hh]
                  have : (ofL l)[k].toNat = 48 := by have := beq_iff_eq.1 hb; omega
                  have e48 : l[k] = 48 := UInt8.toNat_inj.1 this
                  rw [e48]
              · exact Or.inl hg
            by_cases h3 : most < Lat.val (Lat.digs (l.drop k))
            · have hR := Lat.num_range (most := most) h1 h2 h3
              have HE := Lib.hid (HBAD.out (by rw [hR]; simp))
              have HR := Lib.hid hR
              have hA : (most : Int) < ((Lat.acc most (Lat.digs (l.drop k)) : Nat) : Int) := by omega
              clear e HFIN HBAD hR hdl h0 h1 h2 h3 hav hkp' hh
              generalize Lat.acc most (Lat.digs (l.drop k)) = A at *
              rcases hq with hq | hq
              all_goals rcases HX.out with ⟨h, h1, h2⟩ | ⟨h, h1⟩ | h
              all_goals
                go_wp2_with fail
                all_goals
                  go_ret3
                  exact ⟨ret_three (by rw [HE.out]; rfl) (by rw [HR.out]; rfl) (by rw [HR.out]; rfl), rfl⟩
            · have hR := Lat.num_ok (most := most) h1 h2 h3
              have hE := HFIN.out (by rw [hR])
              rw [hR] at hE
              have HE := Lib.hid (show refEnd most l k = p by rw [hE, List.length_drop, hdl]; omega)
              have HR := Lib.hid hR
              have hAv : Lat.acc most (Lat.digs (l.drop k)) = Lat.val (Lat.digs (l.drop k)) := by omega
              have HV := Lib.hid hAv
              have hA : ¬ (most : Int) < ((Lat.acc most (Lat.digs (l.drop k)) : Nat) : Int) := by omega
              clear e HFIN HBAD hR hdl h0 h1 h2 h3 hav hkp' hh hE hAv
              generalize Lat.acc most (Lat.digs (l.drop k)) = A at *
              rcases hq with hq | hq
              all_goals rcases HX.out with ⟨h, h1, h2⟩ | ⟨h, h1⟩ | h
              all_goals
                go_wp2_with fail
                all_goals
                  go_ret3
                  exact ⟨ret_three (by rw [HE.out]; rfl) (by rw [HR.out, ← HV.out]; rfl) (by rw [HR.out]; rfl), rfl⟩
end Go.Proofs.YtokljdaofjgihaaGreatDoor
namespace Go.Proofs.YtokljdaofjgihaaGreatDoor
open Go.ChangeShapes Go.WideShapes Go.ChangeAt Go.RowKit

theorem num_rest {most : Nat} {m : List UInt8} (h : (Lat.num most m).2.2 = 0) : (Lat.num most m).2.1 = m.drop (m.length - (Lat.num most m).2.1.length) := by
  have hd := Lat.digs_le m
  by_cases h0 : m.length = 0
  · rw [Lat.num_short h0] at h; simp at h
  · by_cases h1 : (Lat.digs m).length = 0
    · rw [Lat.num_form h0 h1] at h; simp at h
    · by_cases h2 : 1 < (Lat.digs m).length ∧ m.head? = some 48
      · rw [Lat.num_nought h2.1 h2.2] at h; simp at h
      · by_cases h3 : most < Lat.val (Lat.digs m)
        · rw [Lat.num_range h1 h2 h3] at h; simp at h
        · rw [Lat.num_ok h1 h2 h3]
          show m.drop (Lat.digs m).length = m.drop (m.length - (m.drop (Lat.digs m).length).length)
          rw [List.length_drop, Nat.sub_sub_self hd]
theorem end_drop {most : Nat} {l : List UInt8} {k : Nat} (hk : k ≤ l.length) (h : (Lat.num most (l.drop k)).2.2 = 0) : l.drop (refEnd most l k) = (Lat.num most (l.drop k)).2.1 ∧ refEnd most l k ≤ l.length ∧ k ≤ refEnd most l k := by
  have hr := num_rest h
  have hlen := Lat.num_len most (l.drop k)
  have hdl : (l.drop k).length = l.length - k := List.length_drop
  unfold refEnd
  rw [if_pos h]
  refine ⟨?_, by omega, by omega⟩
  have e : k + ((l.drop k).length - (Lat.num most (l.drop k)).2.1.length) = l.length - (Lat.num most (l.drop k)).2.1.length := by omega
  rw [List.drop_drop, e] at hr
  exact hr.symm
/-- the label that comes out of a level and of what stands behind it -/
def fin (lv : Nat) (R : Nat × Nat) : Nat × Nat × Nat := if R.2 ≠ 0 then (0, 0, R.2) else (lv, R.1, 0)
theorem parse_fin {l : List UInt8} (h : (Lat.num 15 l).2.2 = 0) : Lat.parse l = fin (Lat.num 15 l).1 (Lat.set l.length 0 (Lat.num 15 l).2.1) := by
  unfold Lat.parse fin
  rw [if_neg (by omega)]
theorem txFinBad {lv c : Nat} (s : Nat) (h : c ≠ 0) : fin lv (s, c) = (0, 0, c) := by unfold fin; rw [if_pos h]
theorem fin_ok (lv s : Nat) : fin lv (s, 0) = (lv, s, 0) := by unfold fin; rw [if_neg (by simp)]
theorem add_bit {cur n : Nat} (h : cur < 2 ^ n ∧ 2 ^ n ≤ 2147483648) : ((cur : Int) + 2 ^ n) % 4294967296 = ((cur + 2 ^ n : Nat) : Int) := by
  have e0 : (2 ^ n : Int) = ((2 ^ n : Nat) : Int) := by rw [Int.natCast_pow]; rfl
  rw [e0]; omega
theorem box_far {b c i : Nat} {x y : Value} {w : World} (h : Box b x y w) (v : Value) (hc : c ≠ b) : Box b x y (w.setCell ⟨c, i, none⟩ v).drew :=
  ⟨(World.cell?_setCell_other _ _ _ _ (by simp only [ne_eq, Addr.mk.injEq, not_and]; omega)).trans h.1, (World.cell?_setCell_other _ _ _ _ (by simp only [ne_eq, Addr.mk.injEq, not_and]; omega)).trans h.2.1, fun j => by
    show (w.setCell ⟨c, i, none⟩ v).frozen? _ = false
    rw [World.frozen?_setCell]; exact h.2.2 j⟩
theorem box_second {b : Nat} {x y y' z : Value} {w : World} (h : Box b x y w) (hz : z = y') : Box b x y' (w.setCell ⟨b, 1, none⟩ z).drew := by
  subst hz
  exact ⟨(World.cell?_setCell_other _ _ _ _ (ne_cell b 1 0 (by decide))).trans h.1, World.cell?_setCell_same _ _ _ h.2.1, fun j => by
    show (w.setCell ⟨b, 1, none⟩ z).frozen? _ = false
    rw [World.frozen?_setCell]; exact h.2.2 j⟩
/-- what the document's loop keeps -/
def TxParSt (l : List UInt8) (lv : Nat) (R : Nat × Nat) (w : World) (g : Nat) (a z : Value) (wr : World) : Prop :=
  ∃ k cur i f : Nat, a = .int .i64 (k : Int) ∧ z = .int .i64 ((i : Int) - 1) ∧ Lat.At cur i ∧ i ≤ 32 ∧ k ≤ l.length ∧ (l.drop k).length ≤ f ∧ (l.drop k).length = g ∧ Lat.set f cur (l.drop k) = R ∧
    Box w.heap.size (.int .u8 0) (.int .u32 0) wr ∧ Box (w.heap.size + 1) (.int .u8 (lv : Int)) (.int .u32 (cur : Int)) wr ∧ Below w.heap.size w wr ∧ w.heap.size + 1 < wr.heap.size
set_option maxHeartbeats 4000000 in
theorem rparse_any (l : List UInt8) (w : World) (hl : l.length ≤ 100000) :
    Calls Tryz.prog 83 #[.string (ofL l)] w fun e w' => e = .returned (.tuple #[.agg #[.int .u8 ((Lat.parse l).1 : Int), .int .u32 ((Lat.parse l).2.1 : Int)], .int .i64 ((Lat.parse l).2.2 : Int)]) ∧ Below w.heap.size w w' := by
  have HN := Lib.hid (fun k most W hk hm => rnumber_any l k most W hl hk hm)
  have hsz : (ofL l).size = l.length := ofL_size l
  have hle := Lat.num_le 15 l
  have HB0 := Lib.hid (Box.new (.int .u8 0) (.int .u32 0) 70 w)
  by_cases h1 : (Lat.num 15 l).2.2 = 0
  · have HP := Lib.hid (parse_fin h1)
    have hend := end_drop (most := 15) (l := l) (k := 0) (Nat.zero_le _) (by rw [List.drop_zero]; exact h1)
    have hn0 := HN.out 0 15
    rw [List.drop_zero] at hn0 hend
    have hc1 := code_eq h1
    have hst : TxParSt l (Lat.num 15 l).1 (Lat.set l.length 0 (Lat.num 15 l).2.1) w (l.drop (refEnd 15 l 0)).length (.int .i64 (refEnd 15 l 0 : Int)) (.int .i64 (-1))
        ((w.alloc (.cells #[.int .u8 0, .int .u32 0] 70)).alloc (.cells #[.int .u8 ((Lat.num 15 l).1 : Int), .int .u32 0] 70)) := by
      refine ⟨refEnd 15 l 0, 0, 0, l.length, rfl, rfl, Or.inl ⟨rfl, rfl⟩, by omega, hend.2.1, ?_, rfl, by rw [hend.1], HB0.out.below ((Below.refl _ _).alloc (Nat.le_refl _) _) (by simp), ?_, ((Below.refl _ _).alloc (Nat.le_refl _) _).alloc (by simp) _, by simp⟩
      · rw [List.length_drop]; omega
      · have := Box.new (.int .u8 ((Lat.num 15 l).1 : Int)) (.int .u32 0) 70 (w.alloc (.cells #[.int .u8 0, .int .u32 0] 70))
        simpa using this
    have HST := Lib.hid hst
    have HN0 := Lib.hid (fun W => hn0 W (Nat.zero_le _) (by omega))
    generalize Lat.parse l = PL at *
    generalize Lat.set l.length 0 (Lat.num 15 l).2.1 = R at *
    generalize Lat.num 15 l = N at *
    obtain ⟨lv, rest, code⟩ := N
    simp only at *
    clear h1 hst hn0 hend
    generalize (l.drop (refEnd 15 l 0)).length = g0 at *
    generalize refEnd 15 l 0 = e0 at *
    go_enter Tryz.func83, Tryz.ntmps83
    go_wp2_with fail
    refine (HN0.out _).mono ?_
    rintro e w' ⟨rfl, rfl⟩
    go_wp2_with fail
    go_loopg [4, 8] g0 (fun g a z wr => TxParSt l lv R w g a z wr)
    case atStart => exact HST.out
    case round =>
      obtain ⟨k, cur, i, f, rfl, rfl, hat, hi, hk, hf, hg, hR, b0, b1, hB, hz⟩ := hrel
      have B0 := Lib.hid b0
      have B1 := Lib.hid b1
      have HB := Lib.hid hB
      clear hB
      by_cases hlt : k < l.length
      · have hks : k < (ofL l).size := by omega
        obtain ⟨b, hcons, hgb⟩ : ∃ b, l.drop k = b :: l.drop (k + 1) ∧ (ofL l)[k] = b := ⟨l[k], List.drop_eq_getElem_cons hlt, rfl⟩
        have HGB := Lib.hid hgb
        clear hgb
        rw [hcons] at hR hf hg
        by_cases hb : b = 58
        · rw [hb] at hR
          have hb58 : (((ofL l)[k].toNat : Int) != 58) = false := by rw [HGB.out, hb]; rfl
          obtain ⟨f, rfl⟩ : ∃ f', f = f' + 1 := ⟨f - 1, by rw [List.length_cons] at hf; omega⟩
          have HNK := Lib.hid (fun W => HN.out (k + 1) 31 W (by omega) (by omega))
          have hnle := Lat.num_le 31 (l.drop (k + 1))
          have hend := fun h => end_drop (most := 31) (l := l) (k := k + 1) (by omega) h
          have hlen := Lat.num_len 31 (l.drop (k + 1))
          by_cases h3 : (Lat.num 31 (l.drop (k + 1))).2.2 = 0
          · obtain ⟨hd, hd2, hd3⟩ := hend h3
            have hc3 := code_eq h3
            by_cases h4 : cur / 2 ^ (Lat.num 31 (l.drop (k + 1))).1 = 0
            · rw [Lat.set_next h3 h4, ← hd] at hR
              have hin := hat.le h4
              have HAT := Lib.hid (hat.next hin)
              have HBIT := Lib.hid (bit_lt h4 hnle)
              have HR := Lib.hid hR
              have hgl : (l.drop (refEnd 31 l (k + 1))).length < gk := by rw [hd, ← hg, List.length_cons]; omega
              have hfl : (l.drop (refEnd 31 l (k + 1))).length ≤ f := by rw [hd]; rw [List.length_cons] at hf; omega
              generalize Lat.num 31 (l.drop (k + 1)) = M at *
              obtain ⟨n, r2, code2⟩ := M
              simp only at *
              obtain ⟨q0, q1, q2⟩ := b1
              clear hd h3 h4 hR hend hcons hb hf hg hat
              generalize refEnd 31 l (k + 1) = e1 at *
              go_wp2_with fail
              refine (HNK.out _).mono ?_
              rintro e w' ⟨rfl, rfl⟩
              go_wp2_with fail
              go_region
              all_goals
                go_wp2_with fail
                go_roundg (l.drop e1).length
                case rel => exact ⟨e1, cur + 2 ^ n, n + 1, f, rfl, by go_num, HAT.out, by omega, hd2, hfl, rfl, HR.out, (box_far B0.out _ (by simp)), box_second B1.out (by rw [add_bit HBIT.out]), (HB.out.setCell (by simp) _).drew, by simpa [World.setCell] using hz⟩
                case measure => exact hgl
            · rw [Lat.set_there h3 h4] at hR
              have HX := Lib.hid (show PL = (0, 0, 4) by rw [HP.out, ← hR, txFinBad _ (by decide)])
              have hin : (Lat.num 31 (l.drop (k + 1))).1 < i := by
                rcases Nat.lt_or_ge (Lat.num 31 (l.drop (k + 1))).1 i with h | h
                · exact h
                · exact absurd (hat.div h) h4
              generalize Lat.num 31 (l.drop (k + 1)) = M at *
              obtain ⟨n, r2, code2⟩ := M
              simp only at *
              obtain ⟨p0, p1, p2⟩ := b0
              clear hd h3 h4 hR hend hcons hb hf hg hat
              generalize refEnd 31 l (k + 1) = e1 at *
              go_wp2_with fail
              refine (HNK.out _).mono ?_
              rintro e w' ⟨rfl, rfl⟩
              go_wp2_with fail
              refine bodyPost_ret (v := .tuple #[.agg #[.int .u8 0, .int .u32 0], .int .i64 4]) (by simp [results, Tryz.results83, go_sem, p0, p1]) rfl ⟨by rw [HX.out]; rfl, (HB.out.setCell (by simp) _).setCell (by simp) _⟩
          · rw [Lat.set_num h3] at hR
            have hc3 := code_ne h3
            have HX := Lib.hid (show PL = (0, 0, (Lat.num 31 (l.drop (k + 1))).2.2) by rw [HP.out, ← hR, txFinBad _ h3])
            generalize Lat.num 31 (l.drop (k + 1)) = M at *
            obtain ⟨n, r2, code2⟩ := M
            simp only at *
            obtain ⟨p0, p1, p2⟩ := b0
            clear h3 hR hend hcons hb hf hg hat
            generalize refEnd 31 l (k + 1) = e1 at *
            go_wp2_with fail
            refine (HNK.out _).mono ?_
            rintro e w' ⟨rfl, rfl⟩
            go_wp2_with fail
            refine bodyPost_ret (v := .tuple #[.agg #[.int .u8 0, .int .u32 0], .int .i64 (code2 : Int)]) (by simp [results, Tryz.results83, go_sem, p0, p1]) rfl ⟨by rw [HX.out]; rfl, (HB.out.setCell (by simp) _).setCell (by simp) _⟩
        · rw [Lat.set_colon hb] at hR
          have HX := Lib.hid (show PL = (0, 0, 4) by rw [HP.out, ← hR, txFinBad _ (by decide)])
          have hb58 : (((ofL l)[k].toNat : Int) != 58) = true := by
            rw [HGB.out, bne_iff_ne]
            intro h
            exact hb (UInt8.toNat_inj.1 (by rw [show (58 : UInt8).toNat = 58 from rfl]; omega))
          obtain ⟨p0, p1, p2⟩ := b0
          clear hR hb hcons hf hg
          go_wp2_with fail
          refine bodyPost_ret (v := .tuple #[.agg #[.int .u8 0, .int .u32 0], .int .i64 4]) (by simp [results, Tryz.results83, go_sem, p0, p1]) rfl ⟨by rw [HX.out]; rfl, (HB.out.setCell (by simp) _).setCell (by simp) _⟩
      · have hkl : k = l.length := by omega
        have hnil : l.drop k = [] := List.drop_eq_nil_of_le (by omega)
        rw [hnil, Lat.set_nil] at hR
        have HX := Lib.hid (show PL = (lv, cur, 0) by rw [HP.out, ← hR, fin_ok])
        obtain ⟨p0, p1, p2⟩ := b0
        obtain ⟨q0, q1, -⟩ := b1
        clear hkl hnil hR hf hg
        go_wp2_with fail
        refine bodyPost_ret (v := .tuple #[.agg #[.int .u8 (lv : Int), .int .u32 (cur : Int)], .int .i64 0]) (by simp [results, Tryz.results83, go_sem, p0, p1]) rfl ⟨by rw [HX.out]; rfl, (HB.out.setCell (by simp) _).setCell (by simp) _⟩
  · have hX : Lat.parse l = (0, 0, (Lat.num 15 l).2.2) := parse_bad h1
    have HX := Lib.hid hX
    have hn0 := HN.out 0 15
    rw [List.drop_zero] at hn0
    have HN0 := Lib.hid (fun W => hn0 W (Nat.zero_le _) (by omega))
    have hc1 := code_ne h1
    clear hn0 hX
    generalize Lat.parse l = PL at *
    generalize Lat.num 15 l = N at *
    obtain ⟨lv, rest, code⟩ := N
    simp only at *
    clear h1
    obtain ⟨p0, p1, p2⟩ := HB0.out
    generalize refEnd 15 l 0 = e0 at *
    go_enter Tryz.func83, Tryz.ntmps83
    go_wp2_with fail
    refine (HN0.out _).mono ?_
    rintro e w' ⟨rfl, rfl⟩
    go_wp2_with fail
    refine bodyPost_ret (v := .tuple #[.agg #[.int .u8 0, .int .u32 0], .int .i64 (code : Int)]) (by simp [results, Tryz.results83, go_sem]) rfl ⟨by rw [HX.out]; rfl, (Below.refl _ _).alloc (Nat.le_refl _) _⟩
end Go.Proofs.YtokljdaofjgihaaGreatDoor
