/-
  A POLICY THAT COMES IN: is it gone through.
-/
import Derived.Test.YtokljdaofjgihaaGreatDoorAwkA
namespace Go.Proofs.YtokljdaofjgihaaGreatDoor
open Go.ChangeShapes Go.WideShapes Go.ChangeAt Go.RowKit

/-- a policy as it comes in -/
structure PolIn (W : World) (p : Pl.Pol) (pa : Option Addr) (pc : Nat) (sa : Option Addr) (sc : Nat) (ga : Option Addr) (gc : Nat) : Prop where
  pl : ∀ i, i < p.places.length → ∃ b off, pa = some ⟨b, off, none⟩ ∧ b < W.heap.size ∧ (Pl.plc p.places i).set < 4294967296 ∧ (Pl.plc p.places i).name.length ≤ 9223372036854775807 ∧ PlcAt W b (off + i * 5) (Pl.plc p.places i)
  sl : Ints W sa p.slots
  gr : Grns W ga p.grants
  npl : p.places.length ≤ 9223372036854775807
  nsl : p.slots.length ≤ 9223372036854775807
  ngr : p.grants.length ≤ 9223372036854775807
  cpl : p.places.length ≤ pc
  csl : p.slots.length ≤ sc
  cgr : p.grants.length ≤ gc
theorem PolIn.on {W W' : World} {p : Pl.Pol} {pa : Option Addr} {pc : Nat} {sa : Option Addr} {sc : Nat} {ga : Option Addr} {gc : Nat} (h : PolIn W p pa pc sa sc ga gc) (hb : Below W.heap.size W W') : PolIn W' p pa pc sa sc ga gc :=
  ⟨fun i hi => by
    obtain ⟨b, off, e, h1, h2, h3, h4⟩ := h.pl i hi
    exact ⟨b, off, e, Nat.lt_of_lt_of_le h1 hb.size, h2, h3, h4.below hb h1⟩, h.sl.on hb, h.gr.on hb, h.npl, h.nsl, h.ngr, h.cpl, h.csl, h.cgr⟩
def light (p : Pl.Pol) : Bool := decide (p.places.length ≤ 20) && decide (p.slots.length ≤ 40) && decide (p.grants.length ≤ 10) && p.places.all (fun x => decide (x.name.length ≤ 40))
theorem light_size {p : Pl.Pol} (h : light p = true) : p.places.length ≤ 20 ∧ p.slots.length ≤ 40 ∧ p.grants.length ≤ 10 ∧ ∀ i, i < p.places.length → (Pl.plc p.places i).name.length ≤ 40 := by
  unfold light at h
  simp only [Bool.and_eq_true, decide_eq_true_eq, List.all_eq_true] at h
  refine ⟨h.1.1.1, h.1.1.2, h.1.2, fun i hi => ?_⟩
  have := h.2 p.places[i] (List.getElem_mem hi)
  unfold Pl.plc
  rw [List.getD_eq_getElem?_getD, List.getElem?_eq_getElem hi]
  exact this
theorem light_of {p : Pl.Pol} (h1 : p.places.length ≤ 20) (h2 : p.slots.length ≤ 40) (h3 : p.grants.length ≤ 10) (h : ∀ i, i < p.places.length → (Pl.plc p.places i).name.length ≤ 40) : light p = true := by
  unfold light
  simp only [Bool.and_eq_true, decide_eq_true_eq, List.all_eq_true]
  refine ⟨⟨⟨h1, h2⟩, h3⟩, fun x hx => ?_⟩
  obtain ⟨i, hi, rfl⟩ := List.getElem_of_mem hx
  have := h i hi
  unfold Pl.plc at this
  rwa [List.getD_eq_getElem?_getD, List.getElem?_eq_getElem hi] at this
theorem light_not {p : Pl.Pol} (h : ¬ (p.places.length ≤ 20 ∧ p.slots.length ≤ 40 ∧ p.grants.length ≤ 10 ∧ ∀ i, i < p.places.length → (Pl.plc p.places i).name.length ≤ 40)) : light p = false := by
  rw [Bool.eq_false_iff]; intro e; exact h (light_size e)
theorem PolIn.light {W : World} {p : Pl.Pol} {pa : Option Addr} {pc : Nat} {sa : Option Addr} {sc : Nat} {ga : Option Addr} {gc : Nat} (h : PolIn W p pa pc sa sc ga gc) (hl : light p = true) : PolIs W p pa pc sa sc ga gc := by
  obtain ⟨h1, h2, h3, h4⟩ := light_size hl
  refine ⟨⟨fun i hi => ?_⟩, h.sl, h.gr, by omega, by omega, by omega, h.cpl, h.csl, h.cgr⟩
  obtain ⟨b, off, e, k1, k2, k3, k4⟩ := h.pl i hi
  exact ⟨b, off, e, k1, ⟨by have := h4 i hi; omega, k2⟩, k4⟩
def LightSt (p : Pl.Pol) (w : World) (g : Nat) (i : Value) (wr : World) : Prop :=
  ∃ k : Nat, k + g = p.places.length ∧ i = .int .i64 (k : Int) ∧ (∀ j, j < k → (Pl.plc p.places j).name.length ≤ 40) ∧ Below w.heap.size w wr
set_option maxHeartbeats 4000000 in
theorem light_any (p : Pl.Pol) (pa : Option Addr) (pc : Nat) (sa : Option Addr) (sc : Nat) (ga : Option Addr) (gc : Nat) (w : World) (h : PolIn w p pa pc sa sc ga gc) :
    Calls Tryz.prog 10 #[polV p pa pc sa sc ga gc] w fun e w' => e = .returned (.bool (light p)) ∧ Below w.heap.size w w' := by
  have HI := Lib.hid h
  have hnp := h.npl
  have hns := h.nsl
  have hng := h.ngr
  clear h
  have HYES := Lib.hid (fun h1 h2 h3 h => light_of (p := p) h1 h2 h3 h)
  have HNO := Lib.hid (fun h => light_not (p := p) h)
  have HLS : Hid (∀ g i wr, LightSt p w g i wr ↔ LightSt p w g i wr) := fun _ _ _ => Iff.rfl
  generalize light p = L at *
  obtain ⟨wk, gv, pl, sl, gr⟩ := p
  simp only [polV] at *
  have HB0 := Lib.hid (show Below w.heap.size w (w.alloc (.cells #[.int .i64 wk, .int .i64 gv, .slice pa pl.length pc, .slice sa sl.length sc, .slice ga gr.length gc] 26)) from (Below.refl _ _).alloc (Nat.le_refl _) _)
  by_cases h1 : pl.length ≤ 20
  · by_cases h2 : sl.length ≤ 40
    · by_cases h3 : gr.length ≤ 10
      · go_enter Tryz.func10, Tryz.ntmps10
        go_wp2_with fail
        go_loopg [24] pl.length (fun g i wr => LightSt ⟨wk, gv, pl, sl, gr⟩ w g i wr)
        case atStart => exact ⟨0, by simp, rfl, fun j hj => absurd hj (by omega), HB0.out⟩
        case round =>
          obtain ⟨k, hk, rfl, hno, hB⟩ := hrel
          have hk : k + gk = pl.length := hk
          have HB := Lib.hid hB
          have HK := Lib.hid hk
          have HNX := Lib.hid hno
          have hsz := hB.size
          clear hB hk hno
          by_cases hlt : k < pl.length
          · obtain ⟨b, off, e0, hbl, hs, hnm, hat⟩ := (HI.out.on HB.out).pl k hlt
            try simp only at e0
            subst e0
            obtain ⟨c0, c1, c2, c3, c4⟩ := hat
            by_cases h40 : (Pl.plc pl k).name.length ≤ 40
            · have HN2 : Hid (∀ j, j < k + 1 → (Pl.plc pl j).name.length ≤ 40) := fun j hj => by
                by_cases e : j = k
                · rw [e]; exact h40
                · exact HNX.out j (by omega)
              have hsz2 : (ofL (Pl.plc pl k).name).size = (Pl.plc pl k).name.length := ofL_size _
              try simp only at c0 c1 c2 c3 c4 hs hnm
              generalize Pl.plc pl k = x at *
              obtain ⟨xn, xl, xs, xb, xa⟩ := x
              try simp only at *
              go_wp2_with fail
              go_roundg (gk - 1)
              case rel => exact ⟨k + 1, by have := HK.out; show k + 1 + (gk - 1) = pl.length; omega, by go_num, HN2.out, HB.out.alloc hsz _⟩
              case measure => have := HK.out; omega
            · have HF := Lib.hid (HNO.out (fun h => h40 (h.2.2.2 k hlt)))
              have hsz2 : (ofL (Pl.plc pl k).name).size = (Pl.plc pl k).name.length := ofL_size _
              try simp only at c0 c1 c2 c3 c4 hs hnm
              generalize Pl.plc pl k = x at *
              obtain ⟨xn, xl, xs, xb, xa⟩ := x
              try simp only at *
              go_wp2_with fail
              go_ret
              exact ⟨ret_bool HF.out.symm, HB.out.alloc hsz _⟩
          · have HF := Lib.hid (HYES.out h1 h2 h3 (fun i hi => HNX.out i (by have := HK.out; have hi' : i < pl.length := hi; omega)))
            go_wp2_with fail
            go_ret
            exact ⟨ret_bool HF.out.symm, HB.out⟩
      · have HF := Lib.hid (HNO.out (fun h => h3 h.2.2.1))
        go_enter Tryz.func10, Tryz.ntmps10
        go_wp2_with fail
        go_ret
        exact ⟨ret_bool HF.out.symm, HB0.out⟩
    · have HF := Lib.hid (HNO.out (fun h => h2 h.2.1))
      go_enter Tryz.func10, Tryz.ntmps10
      go_wp2_with fail
      go_ret
      exact ⟨ret_bool HF.out.symm, HB0.out⟩
  · have HF := Lib.hid (HNO.out (fun h => h1 h.1))
    go_enter Tryz.func10, Tryz.ntmps10
    go_wp2_with fail
    go_ret
    exact ⟨ret_bool HF.out.symm, HB0.out⟩
end Go.Proofs.YtokljdaofjgihaaGreatDoor
