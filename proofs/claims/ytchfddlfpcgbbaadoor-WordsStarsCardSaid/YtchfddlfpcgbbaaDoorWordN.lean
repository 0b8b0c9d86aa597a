/-
  THE LAW OF STARS, walked.
-/
import Derived.Test.YtchfddlfpcgbbaaDoorWordM
namespace Go.Proofs.YtchfddlfpcgbbaaDoor
open Go.ChangeShapes Go.WideShapes Go.ChangeAt Go.RowKit

theorem ofL_cat (a b : List UInt8) : ofL a ++ ofL b = ofL (a ++ b) := by
  apply ByteArray.ext
  rw [ByteArray.data_append]
  show a.toArray ++ b.toArray = (a ++ b).toArray
  simp
theorem repeat_at (n : Nat) (hn : n < 30) (w : World) : Calls Tryd.prog 25 #[.string ⟨#[46, 42]⟩, .int .i64 ((n + 1 : Nat) : Int)] w fun e w' => ∃ s : ByteArray, e = .returned (.string s) ∧ s.size = 2 * (n + 1) ∧ s.extract 1 (2 * (n + 1)) = ofL (stars (n + 1)) ∧ Below w.heap.size w w' := by
  refine (Tryd.strings_Repeat ⟨#[46, 42]⟩ (n + 1) w (by omega) (by show 2 * (n + 1) ≤ _; omega)).mono ?_
  rintro e w' ⟨rfl, hB⟩
  have hs : (⟨#[46, 42]⟩ : ByteArray).data.toList = [46, 42] := rfl
  rw [hs]
  have hl : (Lib.repeatL [46, 42] (n + 1)).length = 2 * (n + 1) := by rw [Lib.repeatL_length]; simp; omega
  have hz : (ofL (Lib.repeatL [46, 42] (n + 1))).size = 2 * (n + 1) := by rw [ofL_size, hl]
  refine ⟨ofL (Lib.repeatL [46, 42] (n + 1)), rfl, hz, ?_, hB⟩
  have := extract_drop (ofL (Lib.repeatL [46, 42] (n + 1))) 1
  rw [hz] at this
  rw [this]
  exact congrArg ofL (stars_repeat n)
set_option maxRecDepth 8000 in
set_option maxHeartbeats 8000000 in
theorem stars_walk (n : Nat) (hn : n < 30) (ky : List UInt8) (w : World) (hL : Len w) (h2 : Wrd.keyCode (wildIf false) ky = 0) :
    Calls Tryd.prog 7 #[.int .u8 ((n + 1 : Nat) : Int), .string (ofL ky)] w fun e w' => e = .returned (.bool true) ∧ Below w.heap.size w w' := by
  have HA := Lib.hid (wawake_any w hL)
  have HL := Lib.hid hL
  have HK2 := Lib.hid (fun W => rkey_all ky false W)
  rw [h2] at HK2
  have l2 := key_len h2
  have HS := Lib.hid (fun W h => split_any ky W (by omega) h)
  have hsl := stars_len n
  have HR := Lib.hid (fun W => repeat_at n hn W)
  have hpz : (ofL (stars (n + 1))).size = 2 * n + 1 := by rw [ofL_size, hsl]
  have HM1 := Lib.hid (fun W h => matches_any (stars (n + 1)) ky W (by omega) (by omega) h)
  have HM2 := Lib.hid (fun W h => matches_any (stars (n + 1) ++ [46, 35]) ky W (by rw [List.length_append, hsl]; show 2 * n + 1 + 2 ≤ _; omega) (by omega) h)
  rw [stars_match] at HM1
  rw [hashed_match, ← ofL_cat] at HM2
  have e46 : ofL [46, 35] = ⟨#[46, 35]⟩ := rfl
  rw [e46] at HM2
  have hwl := Wrd.words_len ky
  generalize Wrd.words ky = ws at *
  generalize ofL ky = sk at *
  generalize ofL (stars (n + 1)) = sp at *
  obtain ⟨m, hm⟩ : ∃ m, m = n + 1 := ⟨_, rfl⟩
  rw [← hm] at HM1 HM2 HR ⊢
  have hm1 : ¬ ((m : Int) < 1) := by omega
  have hm2 : ¬ (30 < (m : Int)) := by omega
  have d1 : decide ((m : Int) < 1) = false := by simp; omega
  have d2 : decide (30 < (m : Int)) = false := by simp; omega
  have hspb : sp.size ≤ 100 := by omega
  obtain ⟨b1, hb1⟩ : ∃ b1, decide (ws.length = m) = b1 := ⟨_, rfl⟩
  obtain ⟨b2, hb2⟩ : ∃ b2, decide (m ≤ ws.length) = b2 := ⟨_, rfl⟩
  rw [hb1] at HM1
  rw [hb2] at HM2
  have hc1 : ((ws.length : Int) == (m : Int)) = b1 := by rw [← hb1, Bool.eq_iff_iff]; simp; omega
  have hc2 : decide ((m : Int) ≤ (ws.length : Int)) = b2 := by rw [← hb2, Bool.eq_iff_iff]; simp
  have hbb1 : (b1 == b1) = true := by simp
  have hbb2 : (b2 == b2) = true := by simp
  clear h2 hL e46 hsl hn hm hpz hb1 hwl
  go_enter Tryd.func7, Tryd.ntmps7
  go_wp2_with fail
  refine HA.out.mono ?_
  rintro e u1 ⟨rfl, hB⟩
  have HL1 := Lib.hid (HL.out.on hB)
  have HB1 := Lib.hid hB
  clear hB
  go_wp2_with fail
  refine (HK2.out _).mono ?_
  rintro e u2 ⟨rfl, hB⟩
  have HL2 := Lib.hid (HL1.out.on hB)
  have HB2 := Lib.hid (HB1.out.trans (hB.mono HB1.out.size))
  clear hB
  go_wp2_with fail
  refine (HR.out _).mono ?_
  rintro e u3 ⟨sr, rfl, hsz, hext, hB⟩
  have HL3 := Lib.hid (HL2.out.on hB)
  have HB3 := Lib.hid (HB2.out.trans (hB.mono HB2.out.size))
  clear hB
  go_wp2_with fail
  refine (HS.out _ HL3.out).mono ?_
  rintro e u4 ⟨v, rfl, hown, hB⟩
  obtain ⟨p1, c1, rfl, _⟩ := reads_own hown
  have HL4 := Lib.hid (HL3.out.on hB)
  have HB4 := Lib.hid (HB3.out.trans (hB.mono HB3.out.size))
  clear hB hown
  go_wp2_with fail
  refine (HM1.out _ HL4.out).mono ?_
  rintro e u5 ⟨rfl, hB⟩
  have HL5 := Lib.hid (HL4.out.on hB)
  have HB5 := Lib.hid (HB4.out.trans (hB.mono HB4.out.size))
  clear hB
  go_wp2_with fail
  refine (HM2.out _ HL5.out).mono ?_
  rintro e u6 ⟨rfl, hB⟩
  have HB6 := Lib.hid (HB5.out.trans (hB.mono HB5.out.size))
  clear hB
  go_wp2_with fail
  go_ret
  exact ⟨rfl, HB6.out⟩
set_option maxRecDepth 8000 in
set_option maxHeartbeats 8000000 in
theorem stars_law (a : Nat) (ha : a < 256) (ky : List UInt8) (w : World) (hL : Len w) :
    Calls Tryd.prog 7 #[.int .u8 (a : Int), .string (ofL ky)] w fun e w' => e = .returned (.bool true) ∧ Below w.heap.size w w' := by
  by_cases h0 : a = 0
  · subst h0
    have HA := Lib.hid (wawake_any w hL)
    clear hL
    generalize ofL ky = sk at *
    go_enter Tryd.func7, Tryd.ntmps7
    go_wp2_with fail
    refine HA.out.mono ?_
    rintro e u1 ⟨rfl, hB⟩
    have HB1 := Lib.hid hB
    clear hB
    go_wp2_with fail
    go_ret
    exact ⟨rfl, HB1.out⟩
  · have d1 : decide ((a : Int) < 1) = false := by simp; omega
    by_cases h1 : 30 < a
    · have HA := Lib.hid (wawake_any w hL)
      have d2 : decide (30 < (a : Int)) = true := by simp; omega
      clear hL h0
      generalize ofL ky = sk at *
      go_enter Tryd.func7, Tryd.ntmps7
      go_wp2_with fail
      refine HA.out.mono ?_
      rintro e u1 ⟨rfl, hB⟩
      have HB1 := Lib.hid hB
      clear hB
      go_wp2_with fail
      go_ret
      exact ⟨rfl, HB1.out⟩
    · by_cases h2 : Wrd.keyCode (wildIf false) ky = 0
      · obtain ⟨n, rfl⟩ : ∃ n, a = n + 1 := ⟨a - 1, by omega⟩
        exact stars_walk n (by omega) ky w hL h2
      · have HA := Lib.hid (wawake_any w hL)
        have HK2 := Lib.hid (fun W => rkey_all ky false W)
        have d2 : decide (30 < (a : Int)) = false := by simp; omega
        generalize Wrd.keyCode (wildIf false) ky = C at *
        generalize ofL ky = sk at *
        have hC : (C : Int) ≠ 0 := by omega
        have hCb : ((C : Int) != 0) = true := by simp; omega
        clear h2 hL h0 h1
        go_enter Tryd.func7, Tryd.ntmps7
        go_wp2_with fail
        refine HA.out.mono ?_
        rintro e u1 ⟨rfl, hB⟩
        have HB1 := Lib.hid hB
        clear hB
        go_wp2_with fail
        refine (HK2.out _).mono ?_
        rintro e u2 ⟨rfl, hB⟩
        have HB2 := Lib.hid (HB1.out.trans (hB.mono HB1.out.size))
        clear hB
        go_wp2_with fail
        go_ret
        exact ⟨rfl, HB2.out⟩
end Go.Proofs.YtchfddlfpcgbbaaDoor
