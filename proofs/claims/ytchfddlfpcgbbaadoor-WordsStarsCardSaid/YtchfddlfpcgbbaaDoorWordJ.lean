/-
  THE LAW OF MATCHES, walked.
-/
import Derived.Test.YtchfddlfpcgbbaaDoorWordI
namespace Go.Proofs.YtchfddlfpcgbbaaDoor
open Go.ChangeShapes Go.WideShapes Go.ChangeAt Go.RowKit

/-- a key or a pattern is of at most 64 bytes -/
theorem key_len {bs : List (List UInt8)} {l : List UInt8} (h : Wrd.keyCode bs l = 0) : l.length ≤ 64 := by
  unfold Wrd.keyCode at h
  by_cases h1 : 64 < l.length
  · rw [if_pos h1] at h; cases h
  · omega
theorem key_all {bs : List (List UInt8)} {l : List UInt8} (h : Wrd.keyCode bs l = 0) : ∀ w ∈ Wrd.words l, Wrd.okWord bs w = true := by
  have h1 := key_len h
  unfold Wrd.keyCode at h
  rw [if_neg (by omega)] at h
  by_cases h2 : (Wrd.words l).all (Wrd.okWord bs) = true
  · exact List.all_eq_true.1 h2
  · rw [if_neg h2] at h; cases h
/-- the document's question, of whatever length: too long a text is none -/
theorem rkey_long (s : ByteArray) (pat : Bool) (w : World) (hs : 64 < s.size) : Calls Tryd.prog 17 #[.string s, .bool pat] w fun e w' => e = .returned (.int .i64 5) ∧ w = w' := by
  go_enter Tryd.func17, Tryd.ntmps17
  go_wp2_with fail
  go_ret
  exact ⟨rfl, rfl⟩
theorem rkey_all (l : List UInt8) (pat : Bool) (w : World) : Calls Tryd.prog 17 #[.string (ofL l), .bool pat] w fun e w' => e = .returned (.int .i64 (Wrd.keyCode (wildIf pat) l : Int)) ∧ Below w.heap.size w w' := by
  by_cases h : l.length ≤ 100000
  · exact rkey_any l pat w h
  · refine (rkey_long (ofL l) pat w (by rw [ofL_size]; omega)).mono ?_
    rintro e w' ⟨rfl, rfl⟩
    exact ⟨ret_nat (by rw [key_long _ (by omega : 64 < l.length)]; rfl), Below.refl _ _⟩
set_option maxRecDepth 8000 in
set_option maxHeartbeats 4000000 in
theorem wmatches_law (pt ky : List UInt8) (w : World) (hL : Len w) : Calls Tryd.prog 5 #[.string (ofL pt), .string (ofL ky)] w fun e w' => e = .returned (.bool true) ∧ Below w.heap.size w w' := by
  have HA := Lib.hid (wawake_any w hL)
  have HL := Lib.hid hL
  have HK1 := Lib.hid (fun W => rkey_all pt true W)
  have HK2 := Lib.hid (fun W => rkey_all ky false W)
  clear hL
  by_cases h1 : Wrd.keyCode (wildIf true) pt = 0
  · by_cases h2 : Wrd.keyCode (wildIf false) ky = 0
    · have l1 := key_len h1
      have l2 := key_len h2
      rw [h1] at HK1
      rw [h2] at HK2
      clear h1 h2
      have HM := Lib.hid (fun W h => matches_any pt ky W (by omega) (by omega) h)
      have HS1 := Lib.hid (fun W => rsplit_any pt W (by omega))
      have HS2 := Lib.hid (fun W => rsplit_any ky W (by omega))
      have w1 := Wrd.words_len pt
      have w2 := Wrd.words_len ky
      generalize Wrd.words pt = ps at *
      generalize Wrd.words ky = ks at *
      generalize ofL pt = sp at *
      generalize ofL ky = sk at *
      go_enter Tryd.func5, Tryd.ntmps5
      go_wp2_with fail
      refine HA.out.mono ?_
      rintro e u1 ⟨rfl, hB⟩
      have HL1 := Lib.hid (HL.out.on hB)
      have HB1 := Lib.hid hB
      clear hB
      go_wp2_with fail
      refine (HK1.out _).mono ?_
      rintro e u2 ⟨rfl, hB⟩
      have HL2 := Lib.hid (HL1.out.on hB)
      have HB2 := Lib.hid (HB1.out.trans (hB.mono HB1.out.size))
      clear hB
      go_wp2_with fail
      refine (HK2.out _).mono ?_
      rintro e u3 ⟨rfl, hB⟩
      have HL3 := Lib.hid (HL2.out.on hB)
      have HB3 := Lib.hid (HB2.out.trans (hB.mono HB2.out.size))
      clear hB
      go_wp2_with fail
      refine (HM.out _ HL3.out).mono ?_
      rintro e u4 ⟨rfl, hB⟩
      have HB4 := Lib.hid (HB3.out.trans (hB.mono HB3.out.size))
      clear hB
      go_wp2_with fail
      refine (HS1.out _).mono ?_
      rintro e u5 ⟨v, rfl, hown, hB⟩
      obtain ⟨p1, c1, rfl, hr1⟩ := reads_own hown
      have HB5 := Lib.hid (HB4.out.trans (hB.mono HB4.out.size))
      have HR1 := Lib.hid hr1
      clear hB hr1 hown
      go_wp2_with fail
      refine (HS2.out _).mono ?_
      rintro e u6 ⟨v, rfl, hown, hB⟩
      obtain ⟨p2, c2, rfl, hr2⟩ := reads_own hown
      have HB6 := Lib.hid (HB5.out.trans (hB.mono HB5.out.size))
      have HR2 := Lib.hid hr2
      have HR3 := Lib.hid (HR1.out.on hB)
      clear hB hr2 hown
      go_wp2_with fail
      refine (rmatches_any ps ks p1 p2 c1 c2 _ (by omega) (by omega) HR3.out HR2.out).mono ?_
      rintro e u7 ⟨rfl, hB⟩
      have HB7 := Lib.hid (HB6.out.trans (hB.mono HB6.out.size))
      clear hB
      generalize Wrd.matches' ps ks = M at *
      go_wp2_with fail
      go_ret
      exact ⟨ret_bool (by simp), HB7.out⟩
    · have l1 := key_len h1
      rw [h1] at HK1
      generalize Wrd.keyCode (wildIf false) ky = C at *
      generalize ofL pt = sp at *
      generalize ofL ky = sk at *
      have hC : (C : Int) ≠ 0 := by omega
      have hCb : ((C : Int) != 0) = true := by simp; omega
      clear h1 h2
      go_enter Tryd.func5, Tryd.ntmps5
      go_wp2_with fail
      refine HA.out.mono ?_
      rintro e u1 ⟨rfl, hB⟩
      have HB1 := Lib.hid hB
      clear hB
      go_wp2_with fail
      refine (HK1.out _).mono ?_
      rintro e u2 ⟨rfl, hB⟩
      have HB2 := Lib.hid (HB1.out.trans (hB.mono HB1.out.size))
      clear hB
      go_wp2_with fail
      refine (HK2.out _).mono ?_
      rintro e u3 ⟨rfl, hB⟩
      have HB3 := Lib.hid (HB2.out.trans (hB.mono HB2.out.size))
      clear hB
      go_wp2_with fail
      go_ret
      exact ⟨rfl, HB3.out⟩
  · generalize Wrd.keyCode (wildIf true) pt = C at *
    generalize ofL pt = sp at *
    generalize ofL ky = sk at *
    have hCb : ((C : Int) != 0) = true := by simp; omega
    have hC : (C : Int) ≠ 0 := by omega
    clear h1
    go_enter Tryd.func5, Tryd.ntmps5
    go_wp2_with fail
    refine HA.out.mono ?_
    rintro e u1 ⟨rfl, hB⟩
    have HB1 := Lib.hid hB
    clear hB
    go_wp2_with fail
    refine (HK1.out _).mono ?_
    rintro e u2 ⟨rfl, hB⟩
    have HB2 := Lib.hid (HB1.out.trans (hB.mono HB1.out.size))
    clear hB
    go_wp2_with fail
    go_ret
    exact ⟨rfl, HB2.out⟩
end Go.Proofs.YtchfddlfpcgbbaaDoor
