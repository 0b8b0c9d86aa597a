/-
  MAY A POLICY BE: the program's Check, walked.
-/
import Derived.Test.YtokljdaofjgihaaGreatDoorPolA
import Derived.Test.YtokljdaofjgihaaGreatDoorShelfPol
import Derived.StillTailTactics
import Derived.Deep.RegionWith
namespace Go.Proofs.YtokljdaofjgihaaGreatDoor
open Go.ChangeShapes Go.WideShapes Go.ChangeAt Go.RowKit

/-- a region whose order is drawn, all of whose operations but the last ones only read -/
theorem region_tail {P : Program} {id : Nat} {Q : Exit → Act → World → Prop} {a : Act} {w : World} {l : List Oper} (n : Nat) (hm : P.follows .mixedOrders = true) (hB : Region.lexTailB .any l.toArray n = true)
    (h : wpStill P l.toArray w.drew (fun a' => wpList P l.toArray Q (l.drop n) a' w.drew) (l.take n) a) : (Code.region id l.toArray true).wp P Q a w := wp_region_still_tail n hm hB h
/-- a policy's value -/
def polV (p : Pl.Pol) (pa : Option Addr) (pc : Nat) (sa : Option Addr) (sc : Nat) (ga : Option Addr) (gc : Nat) : Value :=
  .agg #[.int .i64 p.work, .int .i64 p.give, .slice pa p.places.length pc, .slice sa p.slots.length sc, .slice ga p.grants.length gc]
theorem phas_any (p : Pl.Pol) (pa : Option Addr) (pc : Nat) (sa : Option Addr) (sc : Nat) (ga : Option Addr) (gc : Nat) (i : Int) (w : World) (hl : p.places.length ≤ 100000) :
    Calls Tryz.prog 57 #[polV p pa pc sa sc ga gc, .int .i64 i] w fun e w' => e = .returned (.bool (Pl.has p.places.length i)) ∧ Below w.heap.size w w' := by
  have HW := Lib.hid (fun W => within_any i 0 ((p.places.length : Int) - 1) W)
  have HH : Hid (Pl.has p.places.length i = Pl.within i 0 ((p.places.length : Int) - 1)) := rfl
  rw [← HH.out] at HW
  generalize Pl.has _ _ = M at *
  clear HH
  obtain ⟨wk, gv, pl, sl, gr⟩ := p
  simp only [polV] at *
  generalize pl.length = n at *
  go_enter Tryz.func57, Tryz.ntmps57
  go_wp2_with fail
  refine (HW.out _).mono ?_
  rintro e w' ⟨rfl, rfl⟩
  go_wp2_with fail
  go_ret
  exact ⟨rfl, (Below.refl _ _).alloc (Nat.le_refl _) _⟩
theorem has_lt {n : Nat} {i : Int} (h : Pl.has n i = true) : 0 ≤ i ∧ i.toNat < n ∧ ((i.toNat : Nat) : Int) = i := by
  have := Pl.within_iff.1 h; omega
set_option maxRecDepth 100000 in
set_option maxHeartbeats 1000000 in
theorem polUnder_any (p : Pl.Pol) (pa : Option Addr) (pc : Nat) (sa : Option Addr) (sc : Nat) (ga : Option Addr) (gc : Nat) (i j : Int) (w : World) (hl : p.places.length ≤ 100000) (hp : Plcs w pa p.places) (hi : Pl.has p.places.length i = true) (hj : Pl.has p.places.length j = true) :
    Calls Tryz.prog 58 #[polV p pa pc sa sc ga gc, .int .i64 i, .int .i64 j] w fun e w' => e = .returned (.bool (Pl.under p.places i j)) ∧ Below w.heap.size w w' := by
  obtain ⟨hi0, hi1, hi2⟩ := has_lt hi
  obtain ⟨hj0, hj1, hj2⟩ := has_lt hj
  obtain ⟨b, off, hA, hbl, hfi, hati⟩ := hp.at_ _ hi1
  obtain ⟨b', off', hA', -, hfj, hatj⟩ := hp.at_ _ hj1
  rw [hA] at hA'
  obtain ⟨rfl, rfl⟩ : b = b' ∧ off = off' := by simpa using hA'
  subst hA
  have HU := Lib.hid (fun W => under_any (Pl.plc p.places i.toNat).lv (Pl.plc p.places i.toNat).set (Pl.plc p.places j.toNat).lv (Pl.plc p.places j.toNat).set W hfi.set hfj.set)
  have HX : Hid (Pl.under p.places i j = Lat.under (Pl.plc p.places i.toNat).lv (Pl.plc p.places i.toNat).set (Pl.plc p.places j.toNat).lv (Pl.plc p.places j.toNat).set) := rfl
  rw [← HX.out] at HU
  clear HX hA' hp hi hj hfi hfj
  generalize Pl.under _ _ _ = M at *
  obtain ⟨wk, gv, pl, sl, gr⟩ := p
  simp only [polV] at *
  generalize Pl.plc pl i.toNat = x at *
  generalize Pl.plc pl j.toNat = y at *
  generalize pl.length = n at *
  generalize i.toNat = ni at *
  generalize j.toNat = nj at *
  subst hi2 hj2
  obtain ⟨-, c1, c2, -, -⟩ := hati
  obtain ⟨-, d1, d2, -, -⟩ := hatj
  obtain ⟨xn, xl, xs, xb, xa⟩ := x
  obtain ⟨yn, yl, ys, yb, ya⟩ := y
  simp only at c1 c2 d1 d2 HU
  go_enter Tryz.func58, Tryz.ntmps58
  go_wp2_with fail
  refine region_tail 12 (by kernel_rfl) (by kernel_rfl) ?_
  simp only [List.take_succ_cons, List.take_zero, List.drop_succ_cons, List.drop_zero]
  repeat still_step
  refine wpStill_nil ?_
  go_wp2_with fail
  refine (HU.out _).mono ?_
  rintro e w' ⟨rfl, hB⟩
  have HB := Lib.hid (((Below.refl w.heap.size w).alloc (Nat.le_refl _) _).drew.trans (hB.mono (by simp)))
  clear hB
  go_wp2_with fail
  go_ret
  exact ⟨rfl, HB.out⟩
theorem nz {n : Nat} (h : n ≠ 0) : ((n : Int) != 0) = true := by rw [bne_iff_ne]; omega
theorem isz {n : Nat} (h : n = 0) : ((n : Int) != 0) = false := by subst h; rfl
theorem plc_name {ahead : List Pl.Plc} {x : Pl.Plc} (h : Wrd.nameCode x.name ≠ 0) : Pl.plcCode ahead x = Wrd.nameCode x.name := by unfold Pl.plcCode; rw [if_pos h]
theorem plc_range {ahead : List Pl.Plc} {x : Pl.Plc} (h : Wrd.nameCode x.name = 0) (h2 : Pl.plcFine x = false) : Pl.plcCode ahead x = 7 := by unfold Pl.plcCode; rw [if_neg (by rw [h]; simp), if_neg (by rw [h2]; simp)]
theorem plc_there {ahead : List Pl.Plc} {x : Pl.Plc} (h : Wrd.nameCode x.name = 0) (h2 : Pl.plcFine x = true) (h3 : ahead.any (Pl.plcSame x) = true) : Pl.plcCode ahead x = 9 := by unfold Pl.plcCode; rw [if_neg (by rw [h]; simp), if_pos h2, if_pos h3]
theorem plc_ok {ahead : List Pl.Plc} {x : Pl.Plc} (h : Wrd.nameCode x.name = 0) (h2 : Pl.plcFine x = true) (h3 : ahead.any (Pl.plcSame x) = false) : Pl.plcCode ahead x = 0 := by unfold Pl.plcCode; rw [if_neg (by rw [h]; simp), if_pos h2, if_neg (by rw [h3]; simp)]
theorem chk1_tells (x : Pl.Plc) (b : Nat) (w : World) (h : PlcAt w b 0 x) : TellsP 99 #[.pointer (some ⟨b, 0, none⟩)] (Pl.plcSame x) w := fun W y hB =>
  chk1_any x y b W (h.below hB (World.block_lt_of_cell? w _ h.c0))
set_option maxHeartbeats 2000000 in
theorem plcCheck_any (x : Pl.Plc) (l : List Pl.Plc) (A : Option Addr) (c : Nat) (w : World) (hl : l.length ≤ 100000) (hx : x.name.length ≤ 100000) (hp : Plcs w A l) :
    Calls Tryz.prog 72 #[plcV x, .slice A l.length c] w fun e w' => e = .returned (.int .i64 (Pl.plcCode l x : Int)) ∧ Below w.heap.size w w' := by
  have HP := Lib.hid hp
  clear hp
  have HX := Lib.hid (PlcAt.box x w)
  have HB0 := Lib.hid (show Below w.heap.size w (w.alloc (.cells #[.string (ofL x.name), .int .u8 (x.lv : Int), .int .u32 (x.set : Int), .int .i64 x.bytes, .int .u64 (x.base : Int)] 72)) from (Below.refl _ _).alloc (Nat.le_refl _) _)
  have HNM := Lib.hid (fun W => name_any x.name W hx)
  have HR := Lib.hid (fun W => right_any x.lv x.set W)
  have HWI := Lib.hid (fun W => within_any x.bytes 0 65536 W)
  have HC := Lib.hid (fun W (h : PlcAt W w.heap.size 0 x) (hB : Below w.heap.size w W) => contP_any 99 w.heap.size (Or.inl rfl) (Pl.plcSame x) l A c W hl (HP.out.on hB) (chk1_tells x _ W h))
  have H1 := Lib.hid (fun h => plc_name (ahead := l) (x := x) h)
  have H2 := Lib.hid (fun h h2 => plc_range (ahead := l) (x := x) h h2)
  have H3 := Lib.hid (fun h h2 h3 => plc_there (ahead := l) (x := x) h h2 h3)
  have H4 := Lib.hid (fun h h2 h3 => plc_ok (ahead := l) (x := x) h h2 h3)
  have HF : Hid (Pl.plcFine x = (decide (x.lv ≤ 15) && Pl.within x.bytes 0 65536 && decide (x.base ≠ 0))) := rfl
  generalize Pl.plcCode l x = M at *
  generalize Pl.plcFine x = FI at *
  generalize l.any (Pl.plcSame x) = AN at *
  generalize Wrd.nameCode x.name = N at *
  obtain ⟨xn, xl, xs, xb, xa⟩ := x
  simp only [plcV] at *
  try simp only at HF HC HX HNM HR HWI HB0
  by_cases hN : N = 0
  · have hne := isz hN
    have H2 := Lib.hid (H2.out hN)
    have H3 := Lib.hid (H3.out hN)
    have H4 := Lib.hid (H4.out hN)
    clear hN H1
    cases hr : decide (xl ≤ 15) with
    | false =>
      have HM := Lib.hid (H2.out (by rw [HF.out, hr]; rfl))
      rw [hr] at HR
      clear hr
      go_enter Tryz.func72, Tryz.ntmps72
      go_wp2_with fail
      refine (HNM.out _).mono ?_
      rintro e w' ⟨rfl, rfl⟩
      go_wp2_with fail
      refine (HR.out _).mono ?_
      rintro e w1 ⟨rfl, hB⟩
      have HB1 := Lib.hid (HB0.out.trans (hB.mono (by simp)))
      clear hB
      go_wp2_with fail
      go_ret
      exact ⟨ret_nat (by rw [HM.out]; rfl), HB1.out⟩
    | true =>
      rw [hr] at HR
      have HF := Lib.hid (show FI = (Pl.within xb 0 65536 && decide (xa ≠ 0)) by rw [HF.out, hr, Bool.true_and])
      clear hr
      cases hw : Pl.within xb 0 65536 with
      | false =>
        have HM := Lib.hid (H2.out (by rw [HF.out, hw]; rfl))
        rw [hw] at HWI
        clear hw
        go_enter Tryz.func72, Tryz.ntmps72
        go_wp2_with fail
        refine (HNM.out _).mono ?_
        rintro e w' ⟨rfl, rfl⟩
        go_wp2_with fail
        refine (HR.out _).mono ?_
        rintro e w1 ⟨rfl, hB⟩
        have HB1 := Lib.hid (HB0.out.trans (hB.mono (by simp)))
        have HX1 := HX.out.below hB (by simp)
        obtain ⟨x0, x1, x2, x3, x4⟩ := HX1
        clear hB
        go_wp2_with fail
        refine (HWI.out _).mono ?_
        rintro e w' ⟨rfl, rfl⟩
        go_wp2_with fail
        go_ret
        exact ⟨ret_nat (by rw [HM.out]; rfl), HB1.out⟩
      | true =>
        rw [hw] at HWI
        have HF := Lib.hid (show FI = decide (xa ≠ 0) by rw [HF.out, hw, Bool.true_and])
        clear hw
        by_cases h0 : xa = 0
        · have HM := Lib.hid (H2.out (by rw [HF.out, h0]; rfl))
          have hz : ((xa : Int) == 0) = true := by subst h0; rfl
          clear h0
          go_enter Tryz.func72, Tryz.ntmps72
          go_wp2_with fail
          refine (HNM.out _).mono ?_
          rintro e w' ⟨rfl, rfl⟩
          go_wp2_with fail
          refine (HR.out _).mono ?_
          rintro e w1 ⟨rfl, hB⟩
          have HB1 := Lib.hid (HB0.out.trans (hB.mono (by simp)))
          have HX1 := HX.out.below hB (by simp)
          obtain ⟨x0, x1, x2, x3, x4⟩ := HX1
          clear hB
          go_wp2_with fail
          refine (HWI.out _).mono ?_
          rintro e w' ⟨rfl, rfl⟩
          go_wp2_with fail
          go_ret
          exact ⟨ret_nat (by rw [HM.out]; rfl), HB1.out⟩
        · have hf1 : FI = true := by rw [HF.out]; simpa using h0
          have H3 := Lib.hid (H3.out hf1)
          have H4 := Lib.hid (H4.out hf1)
          have hz : ((xa : Int) == 0) = false := by rw [beq_eq_false_iff_ne]; omega
          clear h0 hf1
          go_enter Tryz.func72, Tryz.ntmps72
          go_wp2_with fail
          refine (HNM.out _).mono ?_
          rintro e w' ⟨rfl, rfl⟩
          go_wp2_with fail
          refine (HR.out _).mono ?_
          rintro e w1 ⟨rfl, hB⟩
          have HB1 := Lib.hid (HB0.out.trans (hB.mono (by simp)))
          have HX1 := HX.out.below hB (by simp)
          have HXX := Lib.hid HX1
          obtain ⟨x0, x1, x2, x3, x4⟩ := HX1
          clear hB
          go_wp2_with fail
          refine (HWI.out _).mono ?_
          rintro e w' ⟨rfl, rfl⟩
          go_wp2_with fail
          refine (HC.out _ HXX.out HB1.out).mono ?_
          rintro e w2 ⟨rfl, hB⟩
          have HB2 := Lib.hid (HB1.out.trans (hB.mono HB1.out.size))
          clear hB
          cases AN with
          | true =>
            have HM := Lib.hid (H3.out rfl)
            go_wp2_with fail
            go_ret
            exact ⟨ret_nat (by rw [HM.out]; rfl), HB2.out⟩
          | false =>
            have HM := Lib.hid (H4.out rfl)
            go_wp2_with fail
            go_ret
            exact ⟨ret_nat (by rw [HM.out]; rfl), HB2.out⟩
  · have hne := nz hN
    have HM := Lib.hid (H1.out hN)
    clear hN H1
    go_enter Tryz.func72, Tryz.ntmps72
    go_wp2_with fail
    refine (HNM.out _).mono ?_
    rintro e w' ⟨rfl, rfl⟩
    go_wp2_with fail
    go_ret
    exact ⟨ret_nat (by rw [HM.out]), HB0.out⟩
end Go.Proofs.YtokljdaofjgihaaGreatDoor
