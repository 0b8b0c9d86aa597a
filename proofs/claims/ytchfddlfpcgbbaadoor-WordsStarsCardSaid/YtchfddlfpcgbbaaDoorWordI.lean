/-
  THE LAW OF FORMS, walked.
-/
import Derived.Test.YtchfddlfpcgbbaaDoorWordH
namespace Go.Proofs.YtchfddlfpcgbbaaDoor
open Go.ChangeShapes Go.WideShapes Go.ChangeAt Go.RowKit

theorem below_drewN {B : Nat} {a w : World} (h : Below B a w) (q : Nat) : Below B a (w.drewN q) := by
  induction q generalizing w with
  | zero => exact h
  | succ q ih => exact (ih h).drew
theorem eq_same {w : World} {p1 p2 : Option Addr} {c1 c2 : Nat} {ws : List (List UInt8)} (h1 : Reads w p1 ws) (h2 : Reads w p2 ws) (hl : ws.length ≤ 1000000) :
    Calls Tryd.prog 19 #[.slice p1 ws.length c1, .slice p2 ws.length c2] w fun e w' => e = .returned (.bool true) ∧ Below w.heap.size w w' := by
  by_cases h0 : ws.length = 0
  · rw [h0]
    refine (Tryd.slices_Equal_string_empty p1 p2 c1 0 c2 w (by decide)).mono ?_
    rintro e w' ⟨rfl, rfl⟩
    exact ⟨rfl, Below.refl _ _⟩
  · obtain ⟨g1, rfl, _⟩ := h1 0 (by omega)
    obtain ⟨g2, rfl, _⟩ := h2 0 (by omega)
    have get : ∀ j, j < (ws.map ofL).length → (ws.map ofL).getD j ByteArray.empty = ofL (ws.getD j []) := by
      intro j hj
      rw [List.length_map] at hj
      rw [List.getD_eq_getElem?_getD, List.getD_eq_getElem?_getD, List.getElem?_map, List.getElem?_eq_getElem hj]; rfl
    have rd : ∀ (g : Nat), Reads w (some ⟨g, 0, none⟩) ws → ∀ j, j < (ws.map ofL).length → w.cell? ⟨g, 0 + j, none⟩ = some (.string ((ws.map ofL).getD j ByteArray.empty)) := by
      intro g hr j hj
      have hj2 : j < ws.length := by rw [List.length_map] at hj; exact hj
      obtain ⟨g', e, hc⟩ := hr j hj2
      have : g = g' := by injection e with e; injection e
      subst this
      rw [Nat.zero_add, hc, get j hj, List.getD_eq_getElem?_getD, List.getElem?_eq_getElem hj2]; rfl
    refine (Tryd.slices_Equal_string g1 0 ws.length c1 g2 0 ws.length c2 (ws.map ofL) (ws.map ofL) w (by simp) (by simp) (by omega) (by omega) (rd g1 h1) (rd g2 h2)).mono ?_
    rintro e w' ⟨rfl, q, rfl⟩
    exact ⟨by simp, below_drewN (Below.refl _ _) q⟩
set_option maxRecDepth 8000 in
set_option maxHeartbeats 4000000 in
theorem forms_any (l : List UInt8) (w : World) (hL : Len w) : Calls Tryd.prog 4 #[.string (ofL l)] w fun e w' => e = .returned (.bool true) ∧ Below w.heap.size w w' := by
  have hsz : (ofL l).size = l.length := ofL_size l
  have HA := Lib.hid (wawake_any w hL)
  have HL := Lib.hid hL
  clear hL
  by_cases h2 : 200 < l.length
  · have hs : 200 < (ofL l).size := by omega
    generalize ofL l = s at *
    go_enter Tryd.func4, Tryd.ntmps4
    go_wp2_with fail
    refine HA.out.mono ?_
    rintro e w1 ⟨rfl, hB1⟩
    have HB1 := Lib.hid hB1
    clear hB1
    go_wp2_with fail
    go_ret
    exact ⟨rfl, HB1.out⟩
  · have hs : ¬ 200 < (ofL l).size := by omega
    have hl : l.length ≤ 100000 := by omega
    have HN := Lib.hid (fun W => name_any l W hl)
    have HRN := Lib.hid (fun W => rname_any l W hl)
    have HK := Lib.hid (fun W h => key_any l W hl h)
    have HP := Lib.hid (fun W h => pattern_any l W hl h)
    have HRK := Lib.hid (fun W => rkey_any l false W hl)
    have HRP := Lib.hid (fun W => rkey_any l true W hl)
    have HS := Lib.hid (fun W h => split_any l W hl h)
    have HRS := Lib.hid (fun W => rsplit_any l W hl)
    have hwl := Wrd.words_len l
    have e1 : wildIf false = [] := rfl
    have e2 : wildIf true = wild := rfl
    rw [e1] at HRK
    rw [e2] at HRP
    clear e1 e2
    generalize Wrd.words l = ws at *
    generalize Wrd.nameCode l = C1 at *
    generalize Wrd.keyCode [] l = C2 at *
    generalize Wrd.keyCode wild l = C3 at *
    generalize ofL l = s at *
    go_enter Tryd.func4, Tryd.ntmps4
    go_wp2_with fail
    refine HA.out.mono ?_
    rintro e w1 ⟨rfl, hB⟩
    have HL1 := Lib.hid (HL.out.on hB)
    have HB1 := Lib.hid hB
    clear hB
    go_wp2_with fail
    refine (HN.out _).mono ?_
    rintro e w' ⟨rfl, rfl⟩
    go_wp2_with fail
    refine (HRN.out _).mono ?_
    rintro e w' ⟨rfl, rfl⟩
    go_wp2_with fail
    refine (HK.out _ HL1.out).mono ?_
    rintro e w2 ⟨rfl, hB⟩
    have HL2 := Lib.hid (HL1.out.on hB)
    have HB2 := Lib.hid (HB1.out.trans (hB.mono HB1.out.size))
    clear hB
    go_wp2_with fail
    refine (HRK.out _).mono ?_
    rintro e w3 ⟨rfl, hB⟩
    have HL3 := Lib.hid (HL2.out.on hB)
    have HB3 := Lib.hid (HB2.out.trans (hB.mono HB2.out.size))
    clear hB
    go_wp2_with fail
    refine (HP.out _ HL3.out).mono ?_
    rintro e w4 ⟨rfl, hB⟩
    have HL4 := Lib.hid (HL3.out.on hB)
    have HB4 := Lib.hid (HB3.out.trans (hB.mono HB3.out.size))
    clear hB
    go_wp2_with fail
    refine (HRP.out _).mono ?_
    rintro e w5 ⟨rfl, hB⟩
    have HL5 := Lib.hid (HL4.out.on hB)
    have HB5 := Lib.hid (HB4.out.trans (hB.mono HB4.out.size))
    clear hB
    go_wp2_with fail
    refine (HS.out _ HL5.out).mono ?_
    rintro e w6 ⟨v, rfl, hown, hB⟩
    obtain ⟨p1, c1, rfl, hr1⟩ := reads_own hown
    have HB6 := Lib.hid (HB5.out.trans (hB.mono HB5.out.size))
    have HR1 := Lib.hid hr1
    clear hB hr1 hown
    go_wp2_with fail
    refine (HRS.out _).mono ?_
    rintro e w7 ⟨v, rfl, hown, hB⟩
    obtain ⟨p2, c2, rfl, hr2⟩ := reads_own hown
    have HB7 := Lib.hid (HB6.out.trans (hB.mono HB6.out.size))
    have HR2 := Lib.hid hr2
    have HR3 := Lib.hid (HR1.out.on hB)
    clear hB hr2 hown
    go_wp2_with fail
    refine (eq_same HR3.out HR2.out (by omega)).mono ?_
    rintro e w8 ⟨rfl, hB⟩
    have HB8 := Lib.hid (HB7.out.trans (hB.mono HB7.out.size))
    clear hB
    go_wp2_with fail
    go_ret
    exact ⟨rfl, HB8.out⟩
end Go.Proofs.YtchfddlfpcgbbaaDoor
