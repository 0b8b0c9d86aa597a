/-
  THE DOCUMENT's OWN TEXT OF A LABEL, walked.
-/
import Derived.Test.YtchfddlfpcgbbaaDoorTextA
namespace Go.Proofs.YtchfddlfpcgbbaaDoor
open Go.ChangeShapes Go.WideShapes Go.ChangeAt Go.RowKit
open Go.Lib (decDigits)

theorem digit_cut : ∀ n, n < 10 → (⟨#[48, 49, 50, 51, 52, 53, 54, 55, 56, 57]⟩ : ByteArray).extract n (n + 1) = ofL [UInt8.ofNat (48 + n)] := by decide
set_option maxHeartbeats 1000000 in
theorem digits_ref : ∀ n : Nat, n < 1000 → ∀ w : World, Calls Tryd.prog 32 #[.int .i64 (n : Int)] w fun e w' => e = .returned (.string (ofL (decDigits n))) ∧ w = w' := by
  intro n
  induction n using Nat.strongRecOn with
  | _ n ih =>
    intro hn w
    by_cases h : n < 10
    · have HC := Lib.hid (digit_cut n h)
      have HD := Lib.hid (congrArg ofL (Lat.dec_small h))
      generalize ofL (decDigits n) = D at *
      clear ih
      go_enter Tryd.func32, Tryd.ntmps32
      go_wp2_with fail
      go_ret
      exact ⟨ret_str (by rw [HD.out]; exact HC.out), rfl⟩
    · have HD := Lib.hid (congrArg ofL (Lat.dec_big h))
      have e1 : (n : Int) / 10 = ((n / 10 : Nat) : Int) := by omega
      have e2 : (n : Int) % 10 = ((n % 10 : Nat) : Int) := by omega
      have H1 := Lib.hid (fun W => ih (n / 10) (by omega) (by omega) W)
      have H2 := Lib.hid (fun W => ih (n % 10) (by omega) (by omega) W)
      rw [← e1] at H1
      rw [← e2] at H2
      have z1 : (ofL (decDigits (n / 10))).size ≤ 10 := by rw [ofL_size]; have := Lat.dec_le3 (u := n / 10) (by omega); omega
      have z2 : (ofL (decDigits (n % 10))).size ≤ 10 := by rw [ofL_size]; have := Lat.dec_le3 (u := n % 10) (by omega); omega
      have HS := Lib.hid (show ofL (decDigits (n / 10)) ++ ofL (decDigits (n % 10)) = ofL (decDigits n) by rw [ofL_app, Lat.dec_small (u := n % 10) (by omega), ← Lat.dec_big h])
      generalize ofL (decDigits n) = D at *
      generalize ofL (decDigits (n / 10)) = D1 at *
      generalize ofL (decDigits (n % 10)) = D2 at *
      clear ih HD e1 e2
      go_enter Tryd.func32, Tryd.ntmps32
      go_wp2_with fail
      refine (H1.out _).mono ?_
      rintro e w' ⟨rfl, rfl⟩
      go_wp2_with fail
      refine (H2.out _).mono ?_
      rintro e w' ⟨rfl, rfl⟩
      go_wp2_with fail
      go_ret
      exact ⟨ret_str HS.out, rfl⟩
theorem ofL_colon {a : ByteArray} (l : List UInt8) : a ++ (⟨#[58]⟩ : ByteArray) ++ ofL l = a ++ ofL (58 :: l) := by
  rw [ByteArray.append_assoc, ofL_cons]
set_option maxHeartbeats 1000000 in
theorem rtext_any (lv st : Nat) (w : World) (hl : lv < 256) :
    Calls Tryd.prog 12 #[.agg #[.int .u8 (lv : Int), .int .u32 (st : Int)]] w fun e w' => e = .returned (.string (ofL (Lat.textL lv st))) ∧ Below w.heap.size w w' := by
  have HI := Lib.hid digits_ref
  have HA := Lib.hid (fun i W => has_any lv st i W)
  have hb0 : Box w.heap.size (.int .u8 (lv : Int)) (.int .u32 (st : Int)) (w.alloc (.cells #[.int .u8 (lv : Int), .int .u32 (st : Int)] 24)) := Box.new _ _ _ _
  have HL := Lib.hid (text_len lv st)
  have HF : Hid (ofL (decDigits lv ++ Lat.bits st 32) = ofL (Lat.textL lv st)) := rfl
  have H0 : Hid (ofL (decDigits lv ++ Lat.bits st 0) = ofL (decDigits lv)) := by rw [Lat.bits, List.append_nil]; exact (rfl : _ = _)
  have hst : TextSt lv st w 32 (.string (ofL (decDigits lv))) (.int .i64 0) (w.alloc (.cells #[.int .u8 (lv : Int), .int .u32 (st : Int)] 24)) := ⟨0, rfl, rfl, by rw [H0.out], hb0, (Below.refl w.heap.size w).alloc (Nat.le_refl _) _, by simp⟩
  have HST := Lib.hid hst
  clear hb0 hst
  generalize ofL (Lat.textL lv st) = T at *
  go_enter Tryd.func12, Tryd.ntmps12
  go_wp2_with fail
  refine (HI.out lv (by omega) _).mono ?_
  rintro e w' ⟨rfl, rfl⟩
  go_wp2_with fail
  go_loopg [3, 4] 32 (fun g s i wr => TextSt lv st w g s i wr)
  case atStart => exact HST.out
  case round =>
    obtain ⟨k, hk, rfl, rfl, b1, hB, hz⟩ := hrel
    have B1 := Lib.hid b1
    have HB := Lib.hid hB
    obtain ⟨p0, p1, -⟩ := b1
    clear hB
    by_cases hlt : k < 32
    · have hsz := HL.out k hl (by omega)
      have HK := Lib.hid (fun W => HA.out k W hlt)
      cases hbit : st.testBit k with
      | false =>
        rw [hbit] at HK
        have HX := Lib.hid (bits_no hbit lv)
        clear hbit
        generalize ofL (decDigits lv ++ Lat.bits st k) = s at *
        go_wp2_with fail
        refine (HK.out _).mono ?_
        rintro e w2 ⟨rfl, hb2⟩
        have HB2 := Lib.hid hb2
        clear hb2
        go_wp2_with fail
        go_roundg (gk - 1)
        case rel => exact TextSt.next hk (by omega) HX.out B1.out HB.out hz HB2.out
        case measure => omega
      | true =>
        rw [hbit] at HK
        have HX := Lib.hid (bits_yes hbit lv)
        have hd : (ofL (decDigits k)).size ≤ 2 := by rw [ofL_size]; exact Lat.dec_le2 (by omega)
        have HC := Lib.hid (fun a : ByteArray => ofL_colon (a := a) (decDigits k))
        have HN := Lib.hid (fun W => HI.out k (by omega) W)
        clear hbit
        generalize ofL (decDigits lv ++ Lat.bits st k) = s at *
        have hz58 : (s ++ (⟨#[58]⟩ : ByteArray)).size ≤ 1001 := by rw [ByteArray.size_append]; show s.size + 1 ≤ 1001; omega
        generalize ofL (58 :: decDigits k) = c1 at *
        generalize ofL (decDigits k) = c0 at *
        go_wp2_with fail
        refine (HK.out _).mono ?_
        rintro e w2 ⟨rfl, hb2⟩
        have HB2 := Lib.hid hb2
        clear hb2
        go_wp2_with fail
        refine (HN.out _).mono ?_
        rintro e w' ⟨rfl, rfl⟩
        go_wp2_with fail
        go_roundg (gk - 1)
        case rel => exact TextSt.next hk (by omega) (by rw [HC.out, HX.out]) B1.out HB.out hz HB2.out
        case measure => omega
    · obtain rfl : k = 32 := by omega
      go_wp2_with fail
      go_ret
      exact ⟨ret_str HF.out, HB.out⟩
end Go.Proofs.YtchfddlfpcgbbaaDoor
