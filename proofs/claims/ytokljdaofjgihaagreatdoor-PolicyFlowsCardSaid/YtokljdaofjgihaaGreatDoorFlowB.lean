/-
  WHAT FLOWS: the document's answer.
-/
import Derived.Test.YtokljdaofjgihaaGreatDoorFlowA
import Derived.Test.YtokljdaofjgihaaGreatDoorLawA
import Derived.BigQuiet
import Derived.Deep.QuietTactic
namespace Go.Proofs.YtokljdaofjgihaaGreatDoor
open Go.ChangeShapes Go.WideShapes Go.ChangeAt Go.RowKit

theorem has_no {n : Nat} {i : Int} (h : Pl.has n i = false) : ¬ (0 ≤ i) ∨ (0 ≤ i ∧ ¬ (i < (n : Int))) := by
  rcases Int.lt_or_le i 0 with h1 | h1
  · exact Or.inl (by omega)
  · right
    refine ⟨h1, ?_⟩
    rcases Int.lt_or_le i n with h2 | h2
    · rw [show Pl.has n i = true from Pl.within_iff.2 ⟨h1, by omega⟩] at h; cases h
    · exact by omega
set_option maxRecDepth 100000 in
set_option maxHeartbeats 4000000 in
theorem rflows_any (p : Pl.Pol) (pa : Option Addr) (pc : Nat) (sa : Option Addr) (sc : Nat) (ga : Option Addr) (gc : Nat) (i j : Int) (w : World) (hl : p.places.length ≤ 100000) (hp : Plcs w pa p.places) :
    Calls Tryz.prog 23 #[polV p pa pc sa sc ga gc, .int .i64 i, .int .i64 j] w fun e w' => e = .returned (.bool (Pl.flows p i j)) ∧ Below w.heap.size w w' := by
  have HP := Lib.hid hp
  have HM : Hid (Pl.flows p i j = (decide (i ≠ j) && Pl.has p.places.length i && Pl.has p.places.length j && Pl.under p.places i j)) := rfl
  clear hp
  obtain ⟨wk, gv, pl, sl, gr⟩ := p
  simp only [polV] at *
  try simp only at HP HM
  generalize Pl.flows ⟨wk, gv, pl, sl, gr⟩ i j = M at *
  have HB0 := Lib.hid (show Below w.heap.size w (w.alloc (.cells #[.int .i64 wk, .int .i64 gv, .slice pa pl.length pc, .slice sa sl.length sc, .slice ga gr.length gc] 32)) from (Below.refl _ _).alloc (Nat.le_refl _) _)
  have HC0 := Lib.hid (Cell5.new w (.int .i64 wk) (.int .i64 gv) (.slice pa pl.length pc) (.slice sa sl.length sc) (.slice ga gr.length gc) 32)
  obtain ⟨c0, c1, c2, c3, c4⟩ := HC0.out
  by_cases hij : i = j
  · have HE := Lib.hid (show M = false by rw [HM.out, decide_eq_false (by simpa using hij)]; rfl)
    have hb : (i != j) = false := by simpa using hij
    clear hij
    go_enter Tryz.func23, Tryz.ntmps23
    go_wp2_with fail
    go_quiet (fail)
    go_wp2_with fail
    go_ret
    exact ⟨ret_bool HE.out.symm, drewN_below HB0.out _⟩
  · have hb : (i != j) = true := bne_iff_ne.2 hij
    cases hi : Pl.has pl.length i with
    | false =>
      have HE := Lib.hid (show M = false by rw [HM.out, hi, Bool.and_false, Bool.false_and, Bool.false_and])
      have hq : decide ((0 : Int) ≤ i) = false ∨ (decide ((0 : Int) ≤ i) = true ∧ decide (i < (pl.length : Int)) = false) := by
        rcases has_no hi with h1 | ⟨h1, h2⟩
        · exact Or.inl (decide_eq_false h1)
        · exact Or.inr ⟨decide_eq_true h1, decide_eq_false h2⟩
      clear hij hi
      rcases hq with h1 | ⟨h1, h2⟩
      · go_enter Tryz.func23, Tryz.ntmps23
        go_wp2_with fail
        go_quiet (fail)
        go_wp2_with fail
        go_ret
        exact ⟨ret_bool HE.out.symm, drewN_below HB0.out _⟩
      · go_enter Tryz.func23, Tryz.ntmps23
        go_wp2_with fail
        go_quiet (fail)
        go_wp2_with fail
        go_ret
        exact ⟨ret_bool HE.out.symm, drewN_below HB0.out _⟩
    | true =>
      obtain ⟨hi0, hi1, hi2⟩ := has_lt hi
      have hi3 : i < (pl.length : Int) := by omega
      cases hj : Pl.has pl.length j with
      | false =>
        have HE := Lib.hid (show M = false by rw [HM.out, hj, Bool.and_false, Bool.false_and])
        have hq : decide ((0 : Int) ≤ j) = false ∨ (decide ((0 : Int) ≤ j) = true ∧ decide (j < (pl.length : Int)) = false) := by
          rcases has_no hj with h1 | ⟨h1, h2⟩
          · exact Or.inl (decide_eq_false h1)
          · exact Or.inr ⟨decide_eq_true h1, decide_eq_false h2⟩
        have hi4 : decide ((0 : Int) ≤ i) = true := decide_eq_true hi0
        have hi5 : decide (i < (pl.length : Int)) = true := decide_eq_true hi3
        clear hij hi hj hi0 hi1 hi2 hi3
        rcases hq with h1 | ⟨h1, h2⟩
        · go_enter Tryz.func23, Tryz.ntmps23
          go_wp2_with fail
          go_quiet (fail)
          go_wp2_with fail
          go_ret
          exact ⟨ret_bool HE.out.symm, drewN_below HB0.out _⟩
        · go_enter Tryz.func23, Tryz.ntmps23
          go_wp2_with fail
          go_quiet (fail)
          go_wp2_with fail
          go_ret
          exact ⟨ret_bool HE.out.symm, drewN_below HB0.out _⟩
      | true =>
        have HE := Lib.hid (show M = Pl.under pl i j by rw [HM.out, hi, hj, decide_eq_true hij]; rfl)
        obtain ⟨hj0, hj1, hj2⟩ := has_lt hj
        have hj3 : j < (pl.length : Int) := by omega
        obtain ⟨bp, op, e5, hbp, -, hatf⟩ := (HP.out.on HB0.out).at_ i.toNat (by omega)
        obtain ⟨bp', op', e6, -, -, hatt⟩ := (HP.out.on HB0.out).at_ j.toNat (by omega)
        rw [e5] at e6
        obtain ⟨rfl, rfl⟩ : bp = bp' ∧ op = op' := by simpa using e6
        subst e5
        have HUU : Hid (Pl.under pl i j = Lat.under (Pl.plc pl i.toNat).lv (Pl.plc pl i.toNat).set (Pl.plc pl j.toNat).lv (Pl.plc pl j.toNat).set) := rfl
        have HRU := Lib.hid (fun W => refUnder_any (Pl.plc pl i.toNat).lv (Pl.plc pl i.toNat).set (Pl.plc pl j.toNat).lv (Pl.plc pl j.toNat).set W)
        rw [← HUU.out] at HRU
        clear HUU e6 hi hj HP HM
        generalize Pl.under pl i j = U at *
        obtain ⟨-, a1, a2, -, -⟩ := hatf
        obtain ⟨-, b1, b2, -, -⟩ := hatt
        generalize Pl.plc pl i.toNat = pf at *
        generalize Pl.plc pl j.toNat = pt at *
        obtain ⟨fn, fl, fs, fb, fa⟩ := pf
        obtain ⟨tn, tl, ts, tb, ta⟩ := pt
        try simp only at a1 a2 b1 b2 HRU
        generalize i.toNat = nf at *
        generalize j.toNat = nt at *
        subst hi2 hj2
        have hi4 : decide ((0 : Int) ≤ (nf : Int)) = true := decide_eq_true hi0
        have hi5 : decide ((nf : Int) < (pl.length : Int)) = true := decide_eq_true hi3
        have hj4 : decide ((0 : Int) ≤ (nt : Int)) = true := decide_eq_true hj0
        have hj5 : decide ((nt : Int) < (pl.length : Int)) = true := decide_eq_true hj3
        go_enter Tryz.func23, Tryz.ntmps23
        go_wp2_with fail
        refine region_tail 34 (by kernel_rfl) (by kernel_rfl) ?_
        simp only [List.take_succ_cons, List.take_zero, List.drop_succ_cons, List.drop_zero]
        repeat still_step
        refine wpStill_nil ?_
        go_wp2_with fail
        (with_reducible refine (HRU.out _).mono ?_)
        rintro e wu ⟨rfl, hB⟩
        have HB5 := Lib.hid (bthen HB0.out.drew hB (Nat.le_refl _))
        clear hB
        go_wp2_with fail
        go_ret
        exact ⟨ret_bool (by rw [HE.out]), HB5.out⟩
end Go.Proofs.YtokljdaofjgihaaGreatDoor
