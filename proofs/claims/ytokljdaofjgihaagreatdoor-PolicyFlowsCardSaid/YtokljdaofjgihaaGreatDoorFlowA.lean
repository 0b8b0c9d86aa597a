/-
  WHAT FLOWS: the program's answer.
-/
import Derived.Test.YtokljdaofjgihaaGreatDoorPolF
namespace Go.Proofs.YtokljdaofjgihaaGreatDoor
open Go.ChangeShapes Go.WideShapes Go.ChangeAt Go.RowKit

set_option maxRecDepth 100000 in
set_option maxHeartbeats 2000000 in
theorem polFlows_any (p : Pl.Pol) (pa : Option Addr) (pc : Nat) (sa : Option Addr) (sc : Nat) (ga : Option Addr) (gc : Nat) (i j : Int) (w : World) (hl : p.places.length ≤ 100000) (hp : Plcs w pa p.places) :
    Calls Tryz.prog 22 #[polV p pa pc sa sc ga gc, .int .i64 i, .int .i64 j] w fun e w' => e = .returned (.bool (Pl.flows p i j)) ∧ Below w.heap.size w w' := by
  have HP := Lib.hid hp
  have HHI := Lib.hid (fun W => phas_any p pa pc sa sc ga gc i W hl)
  have HHJ := Lib.hid (fun W => phas_any p pa pc sa sc ga gc j W hl)
  have HU := Lib.hid (fun W h1 h2 h3 => polUnder_any p pa pc sa sc ga gc i j W hl h1 h2 h3)
  have HM : Hid (Pl.flows p i j = (decide (i ≠ j) && Pl.has p.places.length i && Pl.has p.places.length j && Pl.under p.places i j)) := rfl
  clear hp
  obtain ⟨wk, gv, pl, sl, gr⟩ := p
  simp only [polV] at *
  try simp only at HP HHI HHJ HU HM
  generalize Pl.flows ⟨wk, gv, pl, sl, gr⟩ i j = M at *
  have HB0 := Lib.hid (show Below w.heap.size w (w.alloc (.cells #[.int .i64 wk, .int .i64 gv, .slice pa pl.length pc, .slice sa sl.length sc, .slice ga gr.length gc] 26)) from (Below.refl _ _).alloc (Nat.le_refl _) _)
  have HC0 := Lib.hid (Cell5.new w (.int .i64 wk) (.int .i64 gv) (.slice pa pl.length pc) (.slice sa sl.length sc) (.slice ga gr.length gc) 26)
  obtain ⟨c0, c1, c2, c3, c4⟩ := HC0.out
  by_cases hij : i = j
  · have HE := Lib.hid (show M = false by rw [HM.out, decide_eq_false (by simpa using hij)]; rfl)
    subst hij
    go_enter Tryz.func22, Tryz.ntmps22
    go_wp2_with fail
    go_ret
    exact ⟨ret_bool HE.out.symm, HB0.out⟩
  · cases hi : Pl.has pl.length i with
    | false =>
      have HE := Lib.hid (show M = false by rw [HM.out, hi, Bool.and_false, Bool.false_and, Bool.false_and])
      rw [hi] at HHI
      clear hi HU
      go_enter Tryz.func22, Tryz.ntmps22
      go_wp2_with fail
      (with_reducible refine (HHI.out _).mono ?_)
      rintro e w1 ⟨rfl, hB⟩
      have HB1 := Lib.hid (bthen HB0.out hB (Nat.le_refl _))
      clear hB c0 c1 c2 c3 c4
      go_wp2_with fail
      go_ret
      exact ⟨ret_bool HE.out.symm, HB1.out⟩
    | true =>
      rw [hi] at HHI
      cases hj : Pl.has pl.length j with
      | false =>
        have HE := Lib.hid (show M = false by rw [HM.out, hj, Bool.and_false, Bool.false_and])
        rw [hj] at HHJ
        clear hi hj HU
        go_enter Tryz.func22, Tryz.ntmps22
        go_wp2_with fail
        (with_reducible refine (HHI.out _).mono ?_)
        rintro e w1 ⟨rfl, hB⟩
        have HB1 := Lib.hid (bthen HB0.out hB (Nat.le_refl _))
        have HC1 := Lib.hid (HC0.out.on hB)
        clear hB c0 c1 c2 c3 c4
        obtain ⟨c0, c1, c2, c3, c4⟩ := HC1.out
        go_wp2_with fail
        (with_reducible refine (HHJ.out _).mono ?_)
        rintro e w2 ⟨rfl, hB⟩
        have HB2 := Lib.hid (bthen HB1.out hB (Nat.le_refl _))
        clear hB c0 c1 c2 c3 c4
        go_wp2_with fail
        go_ret
        exact ⟨ret_bool HE.out.symm, HB2.out⟩
      | true =>
        have HE := Lib.hid (show M = Pl.under pl i j by rw [HM.out, hi, hj, decide_eq_true hij]; rfl)
        rw [hj] at HHJ
        have HUC := Lib.hid (fun W h => HU.out W h hi hj)
        clear hi hj HU
        generalize Pl.under pl i j = U at *
        go_enter Tryz.func22, Tryz.ntmps22
        go_wp2_with fail
        (with_reducible refine (HHI.out _).mono ?_)
        rintro e w1 ⟨rfl, hB⟩
        have HB1 := Lib.hid (bthen HB0.out hB (Nat.le_refl _))
        have HC1 := Lib.hid (HC0.out.on hB)
        clear hB c0 c1 c2 c3 c4
        obtain ⟨c0, c1, c2, c3, c4⟩ := HC1.out
        go_wp2_with fail
        (with_reducible refine (HHJ.out _).mono ?_)
        rintro e w2 ⟨rfl, hB⟩
        have HB2 := Lib.hid (bthen HB1.out hB (Nat.le_refl _))
        have HC2 := Lib.hid (HC1.out.on hB)
        clear hB c0 c1 c2 c3 c4
        obtain ⟨c0, c1, c2, c3, c4⟩ := HC2.out
        go_wp2_with fail
        (with_reducible refine (HUC.out _ (HP.out.on HB2.out)).mono ?_)
        rintro e w3 ⟨rfl, hB⟩
        have HB3 := Lib.hid (bthen HB2.out hB (Nat.le_refl _))
        clear hB c0 c1 c2 c3 c4
        go_wp2_with fail
        go_ret
        exact ⟨ret_bool (by rw [HE.out, bne_iff_ne.2 hij]; rfl), HB3.out⟩
end Go.Proofs.YtokljdaofjgihaaGreatDoor
