/-
  MAY A POLICY BE, and is it gone through; the document's grants.
-/
import Derived.Test.YtokljdaofjgihaaGreatDoorLawD
namespace Go.Proofs.YtokljdaofjgihaaGreatDoor
open Go.ChangeShapes Go.WideShapes Go.ChangeAt Go.RowKit

def may (p : Pl.Pol) : Bool := light p && (Pl.check p == 0)
theorem may_is {p : Pl.Pol} (h : may p = true) : light p = true ∧ Pl.check p = 0 := by
  unfold may at h
  simpa using h
set_option maxHeartbeats 2000000 in
theorem may_any (p : Pl.Pol) (pa : Option Addr) (pc : Nat) (sa : Option Addr) (sc : Nat) (ga : Option Addr) (gc : Nat) (w : World) (h : PolIn w p pa pc sa sc ga gc) (hnil : sa = none → sc = 0) :
    Calls Tryz.prog 21 #[polV p pa pc sa sc ga gc] w fun e w' => e = .returned (.bool (may p)) ∧ Below w.heap.size w w' := by
  have HI := Lib.hid h
  have HL := Lib.hid (fun W h => light_any p pa pc sa sc ga gc W h)
  have HT := Lib.hid (fun W (h : PolIs W p pa pc sa sc ga gc) h1 h2 h3 => to_any p pa pc sa sc ga gc W h h1 h2 h3 hnil)
  have HC := Lib.hid (fun pa' pc' sa' sc' ga' gc' W h => rcheck_any p pa' pc' sa' sc' ga' gc' W h)
  have HM : Hid (may p = (light p && (Pl.check p == 0))) := rfl
  have HLS := Lib.hid (fun h => light_size (p := p) h)
  clear h
  cases hl : light p with
  | false =>
    have HF := Lib.hid (show may p = false by rw [HM.out, hl]; rfl)
    rw [hl] at HL
    clear hl
    generalize may p = M at *
    obtain ⟨wk, gv, pl, sl, gr⟩ := p
    simp only [polV] at *
    have HB0 := Lib.hid (show Below w.heap.size w (w.alloc (.cells #[.int .i64 wk, .int .i64 gv, .slice pa pl.length pc, .slice sa sl.length sc, .slice ga gr.length gc] 26)) from (Below.refl _ _).alloc (Nat.le_refl _) _)
    go_enter Tryz.func21, Tryz.ntmps21
    go_wp2_with fail
    (with_reducible refine (HL.out _ (HI.out.on HB0.out)).mono ?_)
    rintro e w1 ⟨rfl, hB⟩
    have HB1 := Lib.hid (bthen HB0.out hB (Nat.le_refl _))
    clear hB
    go_wp2_with fail
    go_ret
    exact ⟨ret_bool HF.out.symm, HB1.out⟩
  | true =>
    have HF := Lib.hid (show may p = (Pl.check p == 0) by rw [HM.out, hl]; rfl)
    obtain ⟨s1, s2, s3, -⟩ := HLS.out hl
    have HII := Lib.hid (fun W (h : PolIn W p pa pc sa sc ga gc) => h.light hl)
    rw [hl] at HL
    clear hl HLS
    have HCB := Lib.hid (cast_beq (Pl.check p) 0)
    generalize may p = M at *
    generalize Pl.check p = C at *
    obtain ⟨wk, gv, pl, sl, gr⟩ := p
    simp only [polV] at HL HT HC ⊢
    have HB0 := Lib.hid (show Below w.heap.size w (w.alloc (.cells #[.int .i64 wk, .int .i64 gv, .slice pa pl.length pc, .slice sa sl.length sc, .slice ga gr.length gc] 26)) from (Below.refl _ _).alloc (Nat.le_refl _) _)
    have HC0 := Lib.hid (Cell5.new w (.int .i64 wk) (.int .i64 gv) (.slice pa pl.length pc) (.slice sa sl.length sc) (.slice ga gr.length gc) 26)
    try simp only at s1 s2 s3
    go_enter Tryz.func21, Tryz.ntmps21
    go_wp2_with fail
    (with_reducible refine (HL.out _ (HI.out.on HB0.out)).mono ?_)
    rintro e w1 ⟨rfl, hB⟩
    have HB1 := Lib.hid (bthen HB0.out hB (Nat.le_refl _))
    obtain ⟨c0, c1, c2, c3, c4⟩ := HC0.out.on hB
    clear hB
    go_wp2_with fail
    (with_reducible refine (HT.out _ (HII.out _ (HI.out.on HB1.out)) (by show pl.length ≤ 100; omega) (by show sl.length ≤ 100; omega) (by show gr.length ≤ 100; omega)).mono ?_)
    rintro e w2 ⟨pa', pc', sa', sc', ga', gc', rfl, hp', hB⟩
    have HP' := Lib.hid hp'
    have HB2 := Lib.hid (bthen HB1.out hB (Nat.le_refl _))
    clear hB hp'
    simp only [polV]
    go_wp2_with fail
    (with_reducible refine (HC.out _ _ _ _ _ _ _ HP'.out).mono ?_)
    rintro e w3 ⟨rfl, hB⟩
    have HB3 := Lib.hid (bthen HB2.out hB (Nat.le_refl _))
    have hcb := HCB.out
    have HFF := Lib.hid (show M = (C == 0) from HF.out)
    clear hB
    go_wp2_with fail
    go_ret
    exact ⟨ret_bool (by rw [HFF.out, ← HCB.out]; rfl), HB3.out⟩
def RG (q : Pl.Grn → Bool) (l : List Pl.Grn) (w : World) (g : Nat) (i : Value) (wr : World) : Prop :=
  ∃ k : Nat, k + g = l.length ∧ i = .int .i64 (k : Int) ∧ (∀ j, j < k → q (l.getD j Pl.Grn.zero) = false) ∧ Below w.heap.size w wr
set_option maxHeartbeats 4000000 in
theorem rgrants_any (p : Pl.Pol) (pa : Option Addr) (pc : Nat) (sa : Option Addr) (sc : Nat) (ga : Option Addr) (gc : Nat) (i j : Int) (w : World) (hl : p.grants.length ≤ 100000) (hp : Grns w ga p.grants) :
    Calls Tryz.prog 25 #[polV p pa pc sa sc ga gc, .int .i64 i, .int .i64 j] w fun e w' => e = .returned (.int .i64 (Pl.grant p i j)) ∧ Below w.heap.size w w' := by
  rw [grant_idx]
  have HP := Lib.hid hp
  have HNONE := Lib.hid (fun h => idx_none (q := Pl.grnSame ⟨i, j, 0⟩) (l := p.grants) Pl.Grn.zero h)
  have HSOME := Lib.hid (fun k (hk : k < p.grants.length) h hq => idx_some (q := Pl.grnSame ⟨i, j, 0⟩) (l := p.grants) Pl.Grn.zero hk h hq)
  clear hp
  generalize idx (Pl.grnSame ⟨i, j, 0⟩) p.grants = M at *
  obtain ⟨wk, gv, pl, sl, l⟩ := p
  simp only [polV] at *
  try simp only at HP HNONE HSOME
  have HB0 := Lib.hid (show Below w.heap.size w (w.alloc (.cells #[.int .i64 wk, .int .i64 gv, .slice pa pl.length pc, .slice sa sl.length sc, .slice ga l.length gc] 32)) from (Below.refl _ _).alloc (Nat.le_refl _) _)
  obtain ⟨q, hq⟩ : ∃ q, q = Pl.grnSame ⟨i, j, 0⟩ := ⟨_, rfl⟩
  rw [← hq] at HNONE HSOME
  have HQ := Lib.hid hq
  clear hq
  go_enter Tryz.func25, Tryz.ntmps25
  go_wp2_with fail
  go_loopg [12] l.length (fun g i wr => RG q l w g i wr)
  case atStart => exact ⟨0, by omega, rfl, fun j hj => absurd hj (by omega), HB0.out⟩
  case round =>
    obtain ⟨k, hk, rfl, hno, hB⟩ := hrel
    have HB := Lib.hid hB
    have HNO := Lib.hid hno
    have HK := Lib.hid hk
    clear hB hno hk
    by_cases hlt : k < l.length
    · obtain ⟨b, off, rfl, hbl, hat⟩ := (HP.out.on HB.out).at_ k hlt
      obtain ⟨c0, c1, c2⟩ := hat
      have HYES : Hid (q (Pl.grn l k) = true → M = (k : Int)) := fun h => HSOME.out k hlt HNO.out h
      have HNX : Hid (q (Pl.grn l k) = false → ∀ j, j < k + 1 → q (l.getD j Pl.Grn.zero) = false) := fun h j hj => by
        by_cases e : j = k
        · rw [e]; exact h
        · exact HNO.out j (by omega)
      have HQQ := Lib.hid (show q (Pl.grn l k) = (i == (Pl.grn l k).fr && j == (Pl.grn l k).to) by rw [HQ.out]; rfl)
      generalize Pl.grn l k = x at *
      obtain ⟨xf, xt, xb⟩ := x
      try simp only at c0 c1 c2 HQQ
      have HAL := Lib.hid (bthen HB.out (show Below wr.heap.size wr (wr.alloc (.cells #[.int .i64 xf, .int .i64 xt, .int .i64 xb] 76)) from (Below.refl _ _).alloc (Nat.le_refl _) _) (Nat.le_refl _))
      have E1 := int_beq_comm xf i
      have E2 := int_beq_comm xt j
      cases h1 : i == xf with
      | true =>
        rw [h1] at E1
        cases h2 : j == xt with
        | true =>
          have HM := Lib.hid (HYES.out (by rw [HQQ.out, h1, h2]; rfl))
          rw [h2] at E2
          clear h1 h2
          go_wp2_with fail
          go_ret
          exact ⟨ret_nat HM.out.symm, HAL.out⟩
        | false =>
          have HN := Lib.hid (HNX.out (by rw [HQQ.out, h1, h2]; rfl))
          rw [h2] at E2
          clear h1 h2
          go_wp2_with fail
          go_roundg (gk - 1)
          case rel => exact ⟨k + 1, by have := HK.out; omega, by go_num, HN.out, HAL.out⟩
          case measure => have := HK.out; omega
      | false =>
        have HN := Lib.hid (HNX.out (by rw [HQQ.out, h1]; rfl))
        rw [h1] at E1
        clear h1 E2
        go_wp2_with fail
        go_roundg (gk - 1)
        case rel => exact ⟨k + 1, by have := HK.out; omega, by go_num, HN.out, HAL.out⟩
        case measure => have := HK.out; omega
    · have HM := Lib.hid (HNONE.out (fun i hi => HNO.out i (by have := HK.out; omega)))
      go_wp2_with fail
      go_ret
      exact ⟨ret_nat HM.out.symm, HB.out⟩
end Go.Proofs.YtokljdaofjgihaaGreatDoor
