/-
  MAY A POLICY BE: the program's Check, whole; whose name, what flows, what is granted.
-/
import Derived.Test.YtokljdaofjgihaaGreatDoorPolE
namespace Go.Proofs.YtokljdaofjgihaaGreatDoor
open Go.ChangeShapes Go.WideShapes Go.ChangeAt Go.RowKit

def chkCode (p : Pl.Pol) : Nat → Nat
  | 0 => Pl.placesCode p.places
  | 1 => Pl.slotsCode p.places.length p.slots
  | 2 => Pl.grantsCode p.places p.grants
  | _ => Pl.turnsCode p.places.length p.slots
theorem check_scan {p : Pl.Pol} (h1 : Pl.within p.work 1 16 = true) (h2 : Pl.within p.give 1 16 = true) : Pl.check p = Pl.scan (chkCode p) 4 := by
  unfold Pl.check
  rw [h1, h2]
  simp only [Bool.and_self, if_true]
  have e0 : chkCode p 0 = Pl.placesCode p.places := rfl
  have e1 : chkCode p 1 = Pl.slotsCode p.places.length p.slots := rfl
  have e2 : chkCode p 2 = Pl.grantsCode p.places p.grants := rfl
  have e3 : chkCode p 3 = Pl.turnsCode p.places.length p.slots := rfl
  rw [← e0, ← e1, ← e2, ← e3]
  generalize chkCode p = f
  simp only [Pl.scan]
  by_cases a0 : f 0 = 0 <;> by_cases a1 : f 1 = 0 <;> by_cases a2 : f 2 = 0 <;> simp [a0, a1, a2]
theorem check_range {p : Pl.Pol} (h : (Pl.within p.work 1 16 && Pl.within p.give 1 16) = false) : Pl.check p = 7 := by unfold Pl.check; rw [if_neg (by rw [h]; simp)]
/-- a policy's slices lie -/
structure PolIs (W : World) (p : Pl.Pol) (pa : Option Addr) (pc : Nat) (sa : Option Addr) (sc : Nat) (ga : Option Addr) (gc : Nat) : Prop where
  pl : Plcs W pa p.places
  sl : Ints W sa p.slots
  gr : Grns W ga p.grants
  npl : p.places.length ≤ 100000
  nsl : p.slots.length ≤ 100000
  ngr : p.grants.length ≤ 100000
  cpl : p.places.length ≤ pc
  csl : p.slots.length ≤ sc
  cgr : p.grants.length ≤ gc
theorem PolIs.on {W W' : World} {p : Pl.Pol} {pa : Option Addr} {pc : Nat} {sa : Option Addr} {sc : Nat} {ga : Option Addr} {gc : Nat} (h : PolIs W p pa pc sa sc ga gc) (hb : Below W.heap.size W W') : PolIs W' p pa pc sa sc ga gc :=
  ⟨h.pl.on hb, h.sl.on hb, h.gr.on hb, h.npl, h.nsl, h.ngr, h.cpl, h.csl, h.cgr⟩
structure Cell4 (w : World) (b : Nat) (x0 x1 x2 x3 : Value) : Prop where
  c0 : w.cell? ⟨b, 0, none⟩ = some x0
  c1 : w.cell? ⟨b, 1, none⟩ = some x1
  c2 : w.cell? ⟨b, 2, none⟩ = some x2
  c3 : w.cell? ⟨b, 3, none⟩ = some x3
theorem Cell4.on {w w' : World} {b : Nat} {x0 x1 x2 x3 : Value} (h : Cell4 w b x0 x1 x2 x3) (hb : Below w.heap.size w w') : Cell4 w' b x0 x1 x2 x3 :=
  have hB := World.block_lt_of_cell? w _ h.c0
  ⟨(hb.cell (p := ⟨b, 0, none⟩) hB).trans h.c0, (hb.cell (p := ⟨b, 1, none⟩) hB).trans h.c1, (hb.cell (p := ⟨b, 2, none⟩) hB).trans h.c2, (hb.cell (p := ⟨b, 3, none⟩) hB).trans h.c3⟩
def ChkAll (p : Pl.Pol) (w : World) (x0 x1 x2 x3 : Value) (gk : Nat) (i : Value) (wr : World) : Prop :=
  ∃ k : Nat, k + gk = 4 ∧ i = .int .i64 (k : Int) ∧ (∀ j, j < k → chkCode p j = 0) ∧ Below w.heap.size w wr ∧ Cell4 wr (w.heap.size + 1) x0 x1 x2 x3
theorem cell4_new (w : World) (v p0 p1 p2 p3 : Value) (x0 x1 x2 x3 : Value) (t t' : TypeId) : Cell4 ((w.alloc (.cells #[v, p0, p1, p2, p3] t)).alloc (.cells #[x0, x1, x2, x3] t')) (w.heap.size + 1) x0 x1 x2 x3 := by constructor <;> simp
set_option maxRecDepth 100000 in
set_option maxHeartbeats 4000000 in
theorem polCheck_any (p : Pl.Pol) (pa : Option Addr) (pc : Nat) (sa : Option Addr) (sc : Nat) (ga : Option Addr) (gc : Nat) (w : World) (hp : PolIs w p pa pc sa sc ga gc) :
    Calls Tryz.prog 14 #[polV p pa pc sa sc ga gc] w fun e w' => e = .returned (.int .i64 (Pl.check p : Int)) ∧ Below w.heap.size w w' := by
  have HP := Lib.hid hp
  have HPL := Lib.hid (fun W (h : PolIs W p pa pc sa sc ga gc) => checkPlaces_any p pa pc sa sc ga gc W h.npl h.cpl h.pl)
  have HSL := Lib.hid (fun W (h : PolIs W p pa pc sa sc ga gc) => checkSlots_any p pa pc sa sc ga gc W h.nsl h.npl h.sl)
  have HGR := Lib.hid (fun W (h : PolIs W p pa pc sa sc ga gc) => checkGrants_any p pa pc sa sc ga gc W h.npl h.ngr h.cgr h.pl h.gr)
  have HTU := Lib.hid (fun W (h : PolIs W p pa pc sa sc ga gc) => checkTurns_any p pa pc sa sc ga gc W h.nsl h.npl h.sl)
  have HW := Lib.hid (fun W => within_any p.work 1 16 W)
  have HV := Lib.hid (fun W => within_any p.give 1 16 W)
  have H7 := Lib.hid (fun h => check_range (p := p) h)
  have HSC := Lib.hid (fun h1 h2 => check_scan (p := p) h1 h2)
  have HSC0 := Lib.hid (fun h => Pl.scan_zero (f := chkCode p) (n := 4) h)
  have HSC1 := Lib.hid (fun k hk h hf => Pl.scan_at (f := chkCode p) (n := 4) (k := k) hk h hf)
  clear hp
  generalize Pl.check p = M at *
  generalize Pl.scan (chkCode p) 4 = S at *
  obtain ⟨m0, hm0⟩ : ∃ m, m = chkCode p 0 := ⟨_, rfl⟩
  obtain ⟨m1, hm1⟩ : ∃ m, m = chkCode p 1 := ⟨_, rfl⟩
  obtain ⟨m2, hm2⟩ : ∃ m, m = chkCode p 2 := ⟨_, rfl⟩
  obtain ⟨m3, hm3⟩ : ∃ m, m = chkCode p 3 := ⟨_, rfl⟩
  rw [show Pl.placesCode p.places = m0 from hm0.symm] at HPL
  rw [show Pl.slotsCode p.places.length p.slots = m1 from hm1.symm] at HSL
  rw [show Pl.grantsCode p.places p.grants = m2 from hm2.symm] at HGR
  rw [show Pl.turnsCode p.places.length p.slots = m3 from hm3.symm] at HTU
  have HM0 := Lib.hid hm0
  have HM1 := Lib.hid hm1
  have HM2 := Lib.hid hm2
  have HM3 := Lib.hid hm3
  clear hm0 hm1 hm2 hm3
  have HB0 := Lib.hid (show Below w.heap.size w (w.alloc (.cells #[.int .i64 p.work, .int .i64 p.give, .slice pa p.places.length pc, .slice sa p.slots.length sc, .slice ga p.grants.length gc] 26)) from (Below.refl _ _).alloc (Nat.le_refl _) _)
  have HC4 := Lib.hid (fun x0 x1 x2 x3 t' => cell4_new w (.int .i64 p.work) (.int .i64 p.give) (.slice pa p.places.length pc) (.slice sa p.slots.length sc) (.slice ga p.grants.length gc) x0 x1 x2 x3 26 t')
  simp only [polV] at *
  generalize p.work = wk at *
  generalize p.give = gv at *
  generalize p.places.length = np at *
  generalize p.slots.length = ns at *
  generalize p.grants.length = ng at *
  cases h1 : Pl.within wk 1 16 with
  | false =>
    have HM := Lib.hid (H7.out (by rw [h1]; rfl))
    rw [h1] at HW
    clear h1
    go_enter Tryz.func14, Tryz.ntmps14
    go_wp2_with fail
    with_reducible refine (HW.out _).mono ?_
    rintro e w' ⟨rfl, rfl⟩
    go_wp2_with fail
    go_ret
    exact ⟨ret_nat (by rw [HM.out]; rfl), HB0.out⟩
  | true =>
    rw [h1] at HW
    cases h2 : Pl.within gv 1 16 with
    | false =>
      have HM := Lib.hid (H7.out (by rw [h2, Bool.and_false]))
      rw [h2] at HV
      clear h1 h2
      go_enter Tryz.func14, Tryz.ntmps14
      go_wp2_with fail
      with_reducible refine (HW.out _).mono ?_
      rintro e w' ⟨rfl, rfl⟩
      go_wp2_with fail
      with_reducible refine (HV.out _).mono ?_
      rintro e w' ⟨rfl, rfl⟩
      go_wp2_with fail
      go_ret
      exact ⟨ret_nat (by rw [HM.out]; rfl), HB0.out⟩
    | true =>
      have HM := Lib.hid (HSC.out h1 h2)
      rw [h2] at HV
      clear h1 h2
      go_enter Tryz.func14, Tryz.ntmps14
      go_wp2_with fail
      with_reducible refine (HW.out _).mono ?_
      rintro e w' ⟨rfl, rfl⟩
      go_wp2_with fail
      with_reducible refine (HV.out _).mono ?_
      rintro e w' ⟨rfl, rfl⟩
      go_wp2_with fail
      go_loopg [26] 4 (fun g i wr => ChkAll p w (.func (.func 44) #[.agg #[.int .i64 wk, .int .i64 gv, .slice pa np pc, .slice sa ns sc, .slice ga ng gc]] #[]) (.func (.func 45) #[.agg #[.int .i64 wk, .int .i64 gv, .slice pa np pc, .slice sa ns sc, .slice ga ng gc]] #[]) (.func (.func 46) #[.agg #[.int .i64 wk, .int .i64 gv, .slice pa np pc, .slice sa ns sc, .slice ga ng gc]] #[]) (.func (.func 47) #[.agg #[.int .i64 wk, .int .i64 gv, .slice pa np pc, .slice sa ns sc, .slice ga ng gc]] #[]) g i wr)
      case atStart => exact ⟨0, by omega, rfl, fun j hj => absurd hj (by omega), HB0.out.alloc HB0.out.size _, HC4.out _ _ _ _ _⟩
      case round =>
        obtain ⟨k, hk, rfl, hno, hB, hC⟩ := hrel
        have HB := Lib.hid hB
        have HNO := Lib.hid hno
        have HKK := Lib.hid hk
        have HC := Lib.hid hC
        clear hB hno hC
        have HPW := Lib.hid (HP.out.on HB.out)
        have HQ : Hid (k < 4 → chkCode p k ≠ 0 → S = chkCode p k) := fun h hq => HSC1.out k h HNO.out hq
        have HNX : Hid (chkCode p k = 0 → ∀ j, j < k + 1 → chkCode p j = 0) := fun h j hj => by
          by_cases e : j = k
          · rw [e]; exact h
          · exact HNO.out j (by omega)
        obtain ⟨p0, p1, p2, p3⟩ := HC.out
        have hk4 : k ≤ 4 := by omega
        clear hk
        rcases (show k = 0 ∨ k = 1 ∨ k = 2 ∨ k = 3 ∨ k = 4 by omega) with rfl | rfl | rfl | rfl | rfl
        · rw [← HM0.out] at HQ HNX
          go_wp2_with fail
          with_reducible refine (HPL.out _ HPW.out).mono ?_
          rintro e w1 ⟨rfl, hB⟩
          have HB1 := Lib.hid (bthen HB.out hB (Nat.le_refl _))
          have HC1 := Lib.hid (HC.out.on hB)
          clear hB
          by_cases hD : m0 = 0
          · have hne2 := isz hD
            have HNX := Lib.hid (HNX.out hD)
            clear hD
            go_wp2_with fail
            go_roundg (gk - 1)
            case rel => exact ⟨1, by have := HKK.out; omega, by go_num, HNX.out, HB1.out, HC1.out⟩
            case measure => have := HKK.out; omega
          · have hne2 := nz hD
            have HE := Lib.hid (HQ.out (by omega) hD)
            clear hD
            go_wp2_with fail
            go_ret
            exact ⟨ret_nat (by rw [HM.out, HE.out]), HB1.out⟩
        · rw [← HM1.out] at HQ HNX
          go_wp2_with fail
          with_reducible refine (HSL.out _ HPW.out).mono ?_
          rintro e w1 ⟨rfl, hB⟩
          have HB1 := Lib.hid (bthen HB.out hB (Nat.le_refl _))
          have HC1 := Lib.hid (HC.out.on hB)
          clear hB
          by_cases hD : m1 = 0
          · have hne2 := isz hD
            have HNX := Lib.hid (HNX.out hD)
            clear hD
            go_wp2_with fail
            go_roundg (gk - 1)
            case rel => exact ⟨2, by have := HKK.out; omega, by go_num, HNX.out, HB1.out, HC1.out⟩
            case measure => have := HKK.out; omega
          · have hne2 := nz hD
            have HE := Lib.hid (HQ.out (by omega) hD)
            clear hD
            go_wp2_with fail
            go_ret
            exact ⟨ret_nat (by rw [HM.out, HE.out]), HB1.out⟩
        · rw [← HM2.out] at HQ HNX
          go_wp2_with fail
          with_reducible refine (HGR.out _ HPW.out).mono ?_
          rintro e w1 ⟨rfl, hB⟩
          have HB1 := Lib.hid (bthen HB.out hB (Nat.le_refl _))
          have HC1 := Lib.hid (HC.out.on hB)
          clear hB
          by_cases hD : m2 = 0
          · have hne2 := isz hD
            have HNX := Lib.hid (HNX.out hD)
            clear hD
            go_wp2_with fail
            go_roundg (gk - 1)
            case rel => exact ⟨3, by have := HKK.out; omega, by go_num, HNX.out, HB1.out, HC1.out⟩
            case measure => have := HKK.out; omega
          · have hne2 := nz hD
            have HE := Lib.hid (HQ.out (by omega) hD)
            clear hD
            go_wp2_with fail
            go_ret
            exact ⟨ret_nat (by rw [HM.out, HE.out]), HB1.out⟩
        · rw [← HM3.out] at HQ HNX
          go_wp2_with fail
          with_reducible refine (HTU.out _ HPW.out).mono ?_
          rintro e w1 ⟨rfl, hB⟩
          have HB1 := Lib.hid (bthen HB.out hB (Nat.le_refl _))
          have HC1 := Lib.hid (HC.out.on hB)
          clear hB
          by_cases hD : m3 = 0
          · have hne2 := isz hD
            have HNX := Lib.hid (HNX.out hD)
            clear hD
            go_wp2_with fail
            go_roundg (gk - 1)
            case rel => exact ⟨4, by have := HKK.out; omega, by go_num, HNX.out, HB1.out, HC1.out⟩
            case measure => have := HKK.out; omega
          · have hne2 := nz hD
            have HE := Lib.hid (HQ.out (by omega) hD)
            clear hD
            go_wp2_with fail
            go_ret
            exact ⟨ret_nat (by rw [HM.out, HE.out]), HB1.out⟩
        · have HE := Lib.hid (HSC0.out HNO.out)
          go_wp2_with fail
          go_ret
          exact ⟨ret_nat (by rw [HM.out, HE.out]; rfl), HB.out⟩


/-! ### whose name -/
theorem find_idx (l : List Pl.Plc) (s : List UInt8) : Pl.find l s = idx (fun x => x.name == s) l := rfl
theorem find1_tells (s : List UInt8) (b : Nat) (w : World) (h : w.cell? ⟨b, 0, none⟩ = some (.string (ofL s))) : TellsP 49 #[.pointer (some ⟨b, 0, none⟩)] (fun x => x.name == s) w := fun W y hB =>
  find1_any y s b W ((hB.cell (p := ⟨b, 0, none⟩) (World.block_lt_of_cell? w _ h)).trans h)
set_option maxHeartbeats 1000000 in
theorem polFind_any (p : Pl.Pol) (pa : Option Addr) (pc : Nat) (sa : Option Addr) (sc : Nat) (ga : Option Addr) (gc : Nat) (s : List UInt8) (w : World) (hl : p.places.length ≤ 100000) (hp : Plcs w pa p.places) :
    Calls Tryz.prog 15 #[polV p pa pc sa sc ga gc, .string (ofL s)] w fun e w' => e = .returned (.int .i64 (Pl.find p.places s)) ∧ Below w.heap.size w w' := by
  rw [find_idx]
  have HP := Lib.hid hp
  have HC := Lib.hid (fun b W h hW => indexP_any 49 b (Or.inr rfl) (fun x => x.name == s) p.places pa pc W hl hW (find1_tells s b W h))
  clear hp
  generalize idx (fun x => x.name == s) p.places = M at *
  obtain ⟨wk, gv, l, sl, gr⟩ := p
  simp only [polV] at *
  try simp only at HP HC
  have HB0 := Lib.hid (show Below w.heap.size w ((w.alloc (.cells #[.int .i64 wk, .int .i64 gv, .slice pa l.length pc, .slice sa sl.length sc, .slice ga gr.length gc] 26)).alloc (.cells #[.string (ofL s)] 9)) from ((Below.refl _ _).alloc (Nat.le_refl _) _).alloc (by simp) _)
  have HS0 := Lib.hid (show ((w.alloc (.cells #[.int .i64 wk, .int .i64 gv, .slice pa l.length pc, .slice sa sl.length sc, .slice ga gr.length gc] 26)).alloc (.cells #[.string (ofL s)] 9)).cell? ⟨w.heap.size + 1, 0, none⟩ = some (.string (ofL s)) by simp)
  go_enter Tryz.func15, Tryz.ntmps15
  go_wp2_with fail
  with_reducible refine (HC.out _ _ HS0.out (HP.out.on HB0.out)).mono ?_
  rintro e w1 ⟨rfl, hB⟩
  have HB1 := Lib.hid (bthen HB0.out hB (Nat.le_refl _))
  clear hB
  go_wp2_with fail
  go_ret
  exact ⟨rfl, HB1.out⟩
theorem grant_idx (p : Pl.Pol) (i j : Int) : Pl.grant p i j = idx (Pl.grnSame ⟨i, j, 0⟩) p.grants := rfl
theorem polGrant_any (p : Pl.Pol) (pa : Option Addr) (pc : Nat) (sa : Option Addr) (sc : Nat) (ga : Option Addr) (gc : Nat) (i j : Int) (w : World) (hl : p.grants.length ≤ 100000) (hp : Grns w ga p.grants) :
    Calls Tryz.prog 24 #[polV p pa pc sa sc ga gc, .int .i64 i, .int .i64 j] w fun e w' => e = .returned (.int .i64 (Pl.grant p i j)) ∧ Below w.heap.size w w' := by
  rw [grant_idx]
  have HP := Lib.hid hp
  have HC := Lib.hid (fun W hW => indexG_any ⟨i, j, 0⟩ p.grants ga gc W hl hW)
  clear hp
  generalize idx (Pl.grnSame ⟨i, j, 0⟩) p.grants = M at *
  obtain ⟨wk, gv, pl, sl, l⟩ := p
  simp only [polV, grnV] at *
  try simp only at HP HC
  have HB0 := Lib.hid (show Below w.heap.size w (w.alloc (.cells #[.int .i64 wk, .int .i64 gv, .slice pa pl.length pc, .slice sa sl.length sc, .slice ga l.length gc] 26)) from (Below.refl _ _).alloc (Nat.le_refl _) _)
  go_enter Tryz.func24, Tryz.ntmps24
  go_wp2_with fail
  with_reducible refine (HC.out _ (HP.out.on HB0.out)).mono ?_
  rintro e w1 ⟨rfl, hB⟩
  have HB1 := Lib.hid (bthen HB0.out hB (Nat.le_refl _))
  clear hB
  go_wp2_with fail
  go_ret
  exact ⟨rfl, HB1.out⟩
end Go.Proofs.YtokljdaofjgihaaGreatDoor
