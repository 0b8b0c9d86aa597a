/-
  THE LAW ON ROUNDS, walked.
-/
import Derived.Test.YtokljdaofjgihaaGreatDoorSlotG
import Derived.Deep.RegionHeld3
import Derived.Deep.DeepCutAuto
namespace Go.Proofs.YtokljdaofjgihaaGreatDoor
open Go.ChangeShapes Go.WideShapes Go.ChangeAt Go.RowKit

structure SrIn (w : World) (p : Pl.Pol) (pa : Option Addr) (pc : Nat) (sa : Option Addr) (sc : Nat) (ga : Option Addr) (gc : Nat) (W : World) : Prop where
  b0 : Cell5 W w.heap.size (.int .i64 p.work) (.int .i64 p.give) (.slice pa p.places.length pc) (.slice sa p.slots.length sc) (.slice ga p.grants.length gc)
  i0 : PolIs W p pa pc sa sc ga gc
  below : Below w.heap.size w W
theorem SrIn.on {w : World} {p : Pl.Pol} {pa : Option Addr} {pc : Nat} {sa : Option Addr} {sc : Nat} {ga : Option Addr} {gc : Nat} {W W' : World} (h : SrIn w p pa pc sa sc ga gc W) (hb : Below W.heap.size W W') : SrIn w p pa pc sa sc ga gc W' :=
  ⟨h.b0.on hb, h.i0.on hb, h.below.trans (hb.mono h.below.size)⟩
abbrev SrS (w : World) (p : Pl.Pol) (pa : Option Addr) (pc : Nat) (sa : Option Addr) (sc : Nat) (ga : Option Addr) (gc : Nat) (W : World) : Prop :=
  (W.cell? ⟨w.heap.size, 0, none⟩ = some (.int .i64 p.work) ∧ W.cell? ⟨w.heap.size, 1, none⟩ = some (.int .i64 p.give) ∧ W.cell? ⟨w.heap.size, 2, none⟩ = some (.slice pa p.places.length pc) ∧ W.cell? ⟨w.heap.size, 3, none⟩ = some (.slice sa p.slots.length sc) ∧ W.cell? ⟨w.heap.size, 4, none⟩ = some (.slice ga p.grants.length gc)) ∧ SrIn w p pa pc sa sc ga gc W
theorem SrIn.six {w : World} {p : Pl.Pol} {pa : Option Addr} {pc : Nat} {sa : Option Addr} {sc : Nat} {ga : Option Addr} {gc : Nat} {W : World} (h : SrIn w p pa pc sa sc ga gc W) : SrS w p pa pc sa sc ga gc W :=
  ⟨⟨h.b0.c0, h.b0.c1, h.b0.c2, h.b0.c3, h.b0.c4⟩, h⟩
theorem SrS.on {w : World} {p : Pl.Pol} {pa : Option Addr} {pc : Nat} {sa : Option Addr} {sc : Nat} {ga : Option Addr} {gc : Nat} {W W' : World} (h : SrS w p pa pc sa sc ga gc W) (hb : Below W.heap.size W W') : SrS w p pa pc sa sc ga gc W' := (h.2.on hb).six
/-- all of a place's turns about a tick -/
theorem rounds_math {sl : List Int} {x : Int} {t : Nat} (hx : x ∈ sl) (hl : sl.length ≤ 32) (ht : t ≤ 9223372036854775808) :
    ∃ T k k' R : Nat, T = t + k ∧ k < sl.length ∧ k' < sl.length ∧ Sl.next sl x t = (T, true) ∧ Sl.at_ sl T = x ∧ Sl.next sl x (T + 1) = (T + 1 + k', true) ∧ Sl.at_ sl (T + sl.length) = x ∧ T / sl.length = R ∧ (T + sl.length) / sl.length = R + 1 ∧ R ≤ T ∧ 0 < sl.count x ∧ sl.count x ≤ 32 ∧ T < 9223372036854775808 + 32 := by
  obtain ⟨k, hk, h1, h2⟩ := Sl.next_some (t := t) hx (by omega)
  obtain ⟨k', hk', h3, -⟩ := Sl.next_some (t := t + k + 1) hx (by omega)
  have hc := List.count_le_length (a := x) (l := sl)
  exact ⟨t + k, k, k', (t + k) / sl.length, rfl, hk, hk', h1, h2, h3, by rw [Sl.at_again]; exact h2, rfl, Sl.round_next (by omega), Nat.div_le_self _ _, List.count_pos_iff.2 hx, by omega, by omega⟩
set_option maxRecDepth 100000 in
set_option maxHeartbeats 16000000 in
theorem slotsRounds_walk (p : Pl.Pol) (pa : Option Addr) (pc : Nat) (sa : Option Addr) (sc : Nat) (ga : Option Addr) (gc : Nat) (x : Int) (t : Nat) (w : World) (h : PolIn w p pa pc sa sc ga gc) (hnil : sa = none → sc = 0) (ht : t < 18446744073709551616) (hE : Env w) :
    Calls Tryz.prog 7 #[polV p pa pc sa sc ga gc, .int .i64 x, .int .u64 (t : Int)] w fun e w' => e = .returned (.bool true) ∧ Below w.heap.size w w' := by
  have hs : Below w.heap.size w (w.alloc (.cells #[.int .i64 p.work, .int .i64 p.give, .slice pa p.places.length pc, .slice sa p.slots.length sc, .slice ga p.grants.length gc] 26)) := (Below.refl _ _).alloc (Nat.le_refl _) _
  have HAW := Lib.hid (awake6_any _ (hE.on hs))
  have HS := Lib.hid hs
  have HI := Lib.hid (h.on hs)
  have HC0 := Lib.hid (Cell5.new w (.int .i64 p.work) (.int .i64 p.give) (.slice pa p.places.length pc) (.slice sa p.slots.length sc) (.slice ga p.grants.length gc) 26)
  have HM := Lib.hid (fun W (h : PolIn W p pa pc sa sc ga gc) => may_any p pa pc sa sc ga gc W h hnil)
  clear h hs
  simp only [polV] at HM ⊢
  cases hm : may p with
  | false =>
    rw [hm] at HM
    clear hm ht
    go_enter Tryz.func7, Tryz.ntmps7
    go_wp2_with fail
    refine HAW.out.mono ?_
    rintro e w1 ⟨rfl, b1⟩
    obtain ⟨c0, c1, c2, c3, c4⟩ := HC0.out.on b1
    have HB1 := Lib.hid (HS.out.trans (b1.mono HS.out.size))
    have HI1 := Lib.hid (HI.out.on b1)
    clear b1
    go_wp2_with fail
    refine (HM.out _ HI1.out).mono ?_
    rintro e w2 ⟨rfl, b2⟩
    have HB2 := Lib.hid (HB1.out.trans (b2.mono HB1.out.size))
    clear b2 c0 c1 c2 c3 c4
    go_wp2_with fail
    go_ret
    exact ⟨rfl, HB2.out⟩
  | true =>
    rw [hm] at HM
    obtain ⟨hlight, hchk⟩ := may_is hm
    obtain ⟨s1, s2, s3, -⟩ := light_size hlight
    obtain ⟨k1, k2, k3⟩ := slots_fact hchk
    have HLI := Lib.hid (fun W (h : PolIn W p pa pc sa sc ga gc) => h.light hlight)
    have HNX := Lib.hid (fun q (hq : q < 18446744073709551616) W h => next_any p pa pc sa sc ga gc x q W (by omega) k1 hq h)
    have HAT := Lib.hid (fun q (hq : q < 18446744073709551616) W h => sat_any p pa pc sa sc ga gc q W (by omega) k1 hq h)
    have HRD := Lib.hid (fun q (hq : q < 18446744073709551616) W => sround_any p pa pc sa sc ga gc q W (by omega) k1 hq)
    have HTU := Lib.hid (fun W h => sturns_any p pa pc sa sc ga gc x W (by omega) h)
    have HMATH := Lib.hid (fun hx (h63 : t ≤ 9223372036854775808) => rounds_math (sl := p.slots) (x := x) (t := t) hx (by omega) h63)
    have HIN := Lib.hid k3
    have HL := Lib.hid k2
    have HT := Lib.hid ht
    simp only [polV] at HNX HAT HRD HTU
    clear hlight hchk hm s1 s2 s3 k1 k2 k3 ht
    go_enter Tryz.func7, Tryz.ntmps7
    go_wp2_with fail
    refine HAW.out.mono ?_
    rintro e w1 ⟨rfl, b1⟩
    have HC1 := Lib.hid (HC0.out.on b1)
    obtain ⟨c0, c1, c2, c3, c4⟩ := HC1.out
    have HB1 := Lib.hid (HS.out.trans (b1.mono HS.out.size))
    have HI1 := Lib.hid (HI.out.on b1)
    clear b1
    go_wp2_with fail
    refine (HM.out _ HI1.out).mono ?_
    rintro e w2 ⟨rfl, b2⟩
    have HX0 := Lib.hid (show SrIn w p pa pc sa sc ga gc w2 from ⟨HC1.out.on b2, HLI.out _ (HI1.out.on b2), HB1.out.trans (b2.mono HB1.out.size)⟩)
    clear b2 c0 c1 c2 c3 c4
    clear HAW HS HI HM HLI HC0 HC1 HI1 HB1
    obtain ⟨c0, c1, c2, c3, c4⟩ := HX0.out.b0
    by_cases hx0 : x < 0
    · go_wp2_with fail
      go_ret
      exact ⟨rfl, HX0.out.below⟩
    by_cases hx1 : (p.places.length : Int) ≤ x
    · go_wp2_with fail
      go_ret
      exact ⟨rfl, HX0.out.below⟩
    by_cases ht63 : 9223372036854775808 < t
    · have ht64 : 9223372036854775808 < (t : Int) := by omega
      clear ht63
      go_wp2_with fail
      go_ret
      exact ⟨rfl, HX0.out.below⟩
    have ht64 : ¬ 9223372036854775808 < (t : Int) := by omega
    obtain ⟨T, k, k', R, hTk, hk, hk', n1, a1, n2, a2, r1, r2, hRT, hc0, hc32, hT⟩ := HMATH.out (HIN.out x (by omega) (by omega)) (by omega)
    have HNXt := Lib.hid (HNX.out t HT.out)
    have HATT := Lib.hid (HAT.out T (by omega))
    have HNXT := Lib.hid (HNX.out (T + 1) (by omega))
    have HATL := Lib.hid (HAT.out (T + p.slots.length) (by have := HL.out; omega))
    have HRDL := Lib.hid (HRD.out (T + p.slots.length) (by have := HL.out; omega))
    have HRDT := Lib.hid (HRD.out T (by omega))
    rw [n1] at HNXt
    rw [a1] at HATT
    rw [n2] at HNXT
    rw [a2] at HATL
    rw [r2] at HRDL
    rw [r1] at HRDT
    have en : IntKind.u64.wrap (p.slots.length : Int) = (p.slots.length : Int) := by have := HL.out; rw [IntKind.wrap_u64]; omega
    have f1 : ¬ (T : Int) < (t : Int) := by omega
    have f2 : IntKind.u64.wrap ((T : Int) - (t : Int)) = (k : Int) := by rw [IntKind.wrap_u64]; omega
    have f3 : ¬ (p.slots.length : Int) ≤ (k : Int) := by omega
    have f4 : IntKind.u64.wrap ((T : Int) + 1) = ((T + 1 : Nat) : Int) := by rw [IntKind.wrap_u64]; omega
    have f5 : IntKind.u64.wrap (((T + 1 + k' : Nat) : Int) - (T : Int)) = ((k' + 1 : Nat) : Int) := by have := HL.out; rw [IntKind.wrap_u64]; omega
    have f6 : ((k' + 1 : Nat) : Int) ≤ (p.slots.length : Int) := by omega
    have f7 : IntKind.u64.wrap ((T : Int) + (p.slots.length : Int)) = ((T + p.slots.length : Nat) : Int) := by have := HL.out; rw [IntKind.wrap_u64]; omega
    have f8 : IntKind.u64.wrap ((R : Int) + 1) = ((R + 1 : Nat) : Int) := by rw [IntKind.wrap_u64]; omega
    have f9 : 0 < ((p.slots.count x : Nat) : Int) := by omega
    clear hTk hk hk' n1 a1 n2 a2 r1 r2 hRT hc0 hc32 hT ht63 HNX HAT HRD HMATH HIN
    generalize T + 1 + k' = U at *
    generalize T + 1 = T1 at *
    generalize k' + 1 = K1 at *
    generalize T + p.slots.length = TL at *
    generalize R + 1 = R1 at *
    generalize p.slots.count x = CC at *
    go_wp2_with fail
    (with_reducible refine (HNXt.out _ HX0.out.i0.sl).mono ?_)
    rintro e u1 ⟨rfl, hb1⟩
    have HX1 := Lib.hid (HX0.out.on hb1)
    clear hb1 c0 c1 c2 c3 c4
    obtain ⟨c0, c1, c2, c3, c4⟩ := HX1.out.b0
    go_wp2_with fail
    (with_reducible refine (HATT.out _ HX1.out.i0.sl).mono ?_)
    rintro e u2 ⟨rfl, hb2⟩
    have HX2 := Lib.hid (HX1.out.on hb2)
    clear hb2 c0 c1 c2 c3 c4
    obtain ⟨c0, c1, c2, c3, c4⟩ := HX2.out.b0
    go_wp2_with fail
    (with_reducible refine (HNXT.out _ HX2.out.i0.sl).mono ?_)
    rintro e u3 ⟨rfl, hb3⟩
    have HX3 := Lib.hid (HX2.out.on hb3)
    clear hb3 c0 c1 c2 c3 c4
    go_upto_region 10 with fail
    have HX := Lib.hid (show SrIn w p pa pc sa sc ga gc u3.drew from HX3.out.on (Below.refl _ _).drew)
    clear HNXt HATT HNXT HX0 HX1 HX2
    refine wp_region_noPanic ?_
    refine wp_region_held_drew (S := SrS w p pa pc sa sc ga gc) (by kernel_rfl) ?_ (fun hHeld => ?_)
    · (try dsimp only); (first | assumption | exact HX.out.six | exact SrS.on (by assumption) hb2)
    refine wpAnyH_take (i := 0) (v := ?_) rfl (by kernel_rfl) (by kernel_rfl) (by kernel_rfl) (fun _ _ _ h => h) (Or.inl ⟨by rfl, ?_⟩) (by assumption) ?_
    rotate_left
    · intro w hSw; (try dsimp only at hSw); go_simp; try with_reducible rfl
    (try simp only [List.getElem_toArray, List.getElem_cons_zero, Act.put, List.setIfInBounds_toArray, List.set_cons_zero, List.set_cons_succ])
    refine wpAnyH_take (i := 1) (v := ?_) rfl (by kernel_rfl) (by kernel_rfl) (by kernel_rfl) (fun _ _ _ h => h) (Or.inl ⟨by rfl, ?_⟩) (by assumption) ?_
    rotate_left
    · intro w hSw; (try dsimp only at hSw); go_simp; try with_reducible rfl
    (try simp only [List.getElem_toArray, List.getElem_cons_succ, List.getElem_cons_zero, Act.put, List.setIfInBounds_toArray, List.set_cons_zero, List.set_cons_succ])
    refine wpAnyH_take (i := 2) (v := ?_) rfl (by kernel_rfl) (by kernel_rfl) (by kernel_rfl) (fun _ _ _ h => h) (Or.inl ⟨by rfl, ?_⟩) (by assumption) ?_
    rotate_left
    · intro w hSw; (try dsimp only at hSw); go_simp; try with_reducible rfl
    (try simp only [List.getElem_toArray, List.getElem_cons_succ, List.getElem_cons_zero, Act.put, List.setIfInBounds_toArray, List.set_cons_zero, List.set_cons_succ])
    refine wpAnyH_take (i := 3) (v := ?_) rfl (by kernel_rfl) (by kernel_rfl) (by kernel_rfl) (fun _ _ _ h => h) (Or.inl ⟨by rfl, ?_⟩) (by assumption) ?_
    rotate_left
    · intro w hSw; (try dsimp only at hSw); go_simp; try with_reducible rfl
    (try simp only [List.getElem_toArray, List.getElem_cons_succ, List.getElem_cons_zero, Act.put, List.setIfInBounds_toArray, List.set_cons_zero, List.set_cons_succ])
    refine wpAnyH_take (i := 4) (v := ?_) rfl (by kernel_rfl) (by kernel_rfl) (by kernel_rfl) (fun _ _ _ h => h) (Or.inl ⟨by rfl, ?_⟩) (by assumption) ?_
    rotate_left
    · intro w hSw; (try dsimp only at hSw); go_simp; try with_reducible rfl
    (try simp only [List.getElem_toArray, List.getElem_cons_succ, List.getElem_cons_zero, Act.put, List.setIfInBounds_toArray, List.set_cons_zero, List.set_cons_succ])
    refine wpAnyH_take (i := 5) (v := ?_) rfl (by kernel_rfl) (by kernel_rfl) (by kernel_rfl) (fun _ _ _ h => h) (Or.inl ⟨by rfl, ?_⟩) (by assumption) ?_
    rotate_left
    · intro w hSw; (try dsimp only at hSw); go_simp; try with_reducible rfl
    (try simp only [List.getElem_toArray, List.getElem_cons_succ, List.getElem_cons_zero, Act.put, List.setIfInBounds_toArray, List.set_cons_zero, List.set_cons_succ])
    refine wpAnyH_take (i := 6) (v := ?_) rfl (by kernel_rfl) (by kernel_rfl) (by kernel_rfl) (fun _ _ _ h => h) (Or.inl ⟨by rfl, ?_⟩) (by assumption) ?_
    rotate_left
    · intro w hSw; (try dsimp only at hSw); go_simp; try with_reducible rfl
    (try simp only [List.getElem_toArray, List.getElem_cons_succ, List.getElem_cons_zero, Act.put, List.setIfInBounds_toArray, List.set_cons_zero, List.set_cons_succ])
    refine wpAnyH_take (i := 7) (v := ?_) rfl (by kernel_rfl) (by kernel_rfl) (by kernel_rfl) (fun _ _ _ h => h) (Or.inl ⟨by rfl, ?_⟩) (by assumption) ?_
    rotate_left
    · intro w hSw; (try dsimp only at hSw); go_simp; try with_reducible rfl
    (try simp only [List.getElem_toArray, List.getElem_cons_succ, List.getElem_cons_zero, Act.put, List.setIfInBounds_toArray, List.set_cons_zero, List.set_cons_succ])
    refine wpAnyH_take (i := 8) (v := ?_) rfl (by kernel_rfl) (by kernel_rfl) (by kernel_rfl) (fun _ _ _ h => h) (Or.inl ⟨by rfl, ?_⟩) (by assumption) ?_
    rotate_left
    · intro w hSw; (try dsimp only at hSw); go_simp; try with_reducible rfl
    (try simp only [List.getElem_toArray, List.getElem_cons_succ, List.getElem_cons_zero, Act.put, List.setIfInBounds_toArray, List.set_cons_zero, List.set_cons_succ])
    refine wpAnyH_take (i := 9) (v := ?_) rfl (by kernel_rfl) (by kernel_rfl) (by kernel_rfl) (fun _ _ _ h => h) (Or.inl ⟨by rfl, ?_⟩) (by assumption) ?_
    rotate_left
    · intro w hSw; (try dsimp only at hSw); go_simp; try with_reducible rfl
    (try simp only [List.getElem_toArray, List.getElem_cons_succ, List.getElem_cons_zero, Act.put, List.setIfInBounds_toArray, List.set_cons_zero, List.set_cons_succ])
    refine wpAnyH_take (i := 10) (v := ?_) rfl (by kernel_rfl) (by kernel_rfl) (by kernel_rfl) (fun _ _ _ h => h) (Or.inl ⟨by rfl, ?_⟩) (by assumption) ?_
    rotate_left
    · intro w hSw; (try dsimp only at hSw); go_simp; try with_reducible rfl
    (try simp only [List.getElem_toArray, List.getElem_cons_succ, List.getElem_cons_zero, Act.put, List.setIfInBounds_toArray, List.set_cons_zero, List.set_cons_succ])
    refine wpAnyH_take (i := 11) (v := ?_) rfl (by kernel_rfl) (by kernel_rfl) (by kernel_rfl) (fun _ _ _ h => h) (Or.inl ⟨by rfl, ?_⟩) (by assumption) ?_
    rotate_left
    · intro w hSw; (try dsimp only at hSw); go_simp; try with_reducible rfl
    (try simp only [List.getElem_toArray, List.getElem_cons_succ, List.getElem_cons_zero, Act.put, List.setIfInBounds_toArray, List.set_cons_zero, List.set_cons_succ])
    refine wpAnyH_take (i := 12) (v := ?_) rfl (by kernel_rfl) (by kernel_rfl) (by kernel_rfl) (fun _ _ _ h => h) (Or.inl ⟨by rfl, ?_⟩) (by assumption) ?_
    rotate_left
    · intro w hSw; (try dsimp only at hSw); go_simp; try with_reducible rfl
    (try simp only [List.getElem_toArray, List.getElem_cons_succ, List.getElem_cons_zero, Act.put, List.setIfInBounds_toArray, List.set_cons_zero, List.set_cons_succ])
    refine wpAnyH_take (i := 14) (v := ?_) rfl (by kernel_rfl) (by kernel_rfl) (by kernel_rfl) (fun _ _ _ h => h) (Or.inl ⟨by rfl, ?_⟩) (by assumption) ?_
    rotate_left
    · intro w hSw; (try dsimp only at hSw); go_simp; try with_reducible rfl
    (try simp only [List.getElem_toArray, List.getElem_cons_succ, List.getElem_cons_zero, Act.put, List.setIfInBounds_toArray, List.set_cons_zero, List.set_cons_succ])
    refine wpAnyH_ready (rs := [13]) (by kernel_rfl) (by simp) ?_
    refine AllReadyH.cons rfl (fun K hK => ?_) (AllReadyH.nil)
    · go_simp
      (go_at_call 29; ((with_reducible refine (HATL.out _ hHeld.2.i0.sl).mono ?_); rintro e' wz ⟨rfl, hb2⟩))
      refine hK.out _ _ ?_ (fun hHeld => ?_)
      · (try dsimp only); (first | assumption | exact HX.out.six | exact SrS.on (by assumption) hb2)
      clear hK K
      (try simp only [List.getElem_toArray, List.getElem_cons_succ, List.getElem_cons_zero, Act.put, List.setIfInBounds_toArray, List.set_cons_zero, List.set_cons_succ])
      refine wpAnyH_take (i := 15) (v := ?_) rfl (by kernel_rfl) (by kernel_rfl) (by kernel_rfl) (fun _ _ _ h => h) (Or.inl ⟨by rfl, ?_⟩) (by assumption) ?_
      rotate_left
      · intro w hSw; (try dsimp only at hSw); go_simp; try with_reducible rfl
      (try simp only [List.getElem_toArray, List.getElem_cons_succ, List.getElem_cons_zero, Act.put, List.setIfInBounds_toArray, List.set_cons_zero, List.set_cons_succ])
      refine wpAnyH_take (i := 16) (v := ?_) rfl (by kernel_rfl) (by kernel_rfl) (by kernel_rfl) (fun _ _ _ h => h) (Or.inl ⟨by rfl, ?_⟩) (by assumption) ?_
      rotate_left
      · intro w hSw; (try dsimp only at hSw); go_simp; try with_reducible rfl
      (try simp only [List.getElem_toArray, List.getElem_cons_succ, List.getElem_cons_zero, Act.put, List.setIfInBounds_toArray, List.set_cons_zero, List.set_cons_succ])
      refine wpAnyH_take (i := 17) (v := ?_) rfl (by kernel_rfl) (by kernel_rfl) (by kernel_rfl) (fun _ _ _ h => h) (Or.inl ⟨by rfl, ?_⟩) (by assumption) ?_
      rotate_left
      · intro w hSw; (try dsimp only at hSw); go_simp; try with_reducible rfl
      (try simp only [List.getElem_toArray, List.getElem_cons_succ, List.getElem_cons_zero, Act.put, List.setIfInBounds_toArray, List.set_cons_zero, List.set_cons_succ])
      refine wpAnyH_take (i := 18) (v := ?_) rfl (by kernel_rfl) (by kernel_rfl) (by kernel_rfl) (fun _ _ _ h => h) (Or.inl ⟨by rfl, ?_⟩) (by assumption) ?_
      rotate_left
      · intro w hSw; (try dsimp only at hSw); go_simp; try with_reducible rfl
      (try simp only [List.getElem_toArray, List.getElem_cons_succ, List.getElem_cons_zero, Act.put, List.setIfInBounds_toArray, List.set_cons_zero, List.set_cons_succ])
      refine wpAnyH_take (i := 19) (v := ?_) rfl (by kernel_rfl) (by kernel_rfl) (by kernel_rfl) (fun _ _ _ h => h) (Or.inl ⟨by rfl, ?_⟩) (by assumption) ?_
      rotate_left
      · intro w hSw; (try dsimp only at hSw); go_simp; try with_reducible rfl
      (try simp only [List.getElem_toArray, List.getElem_cons_succ, List.getElem_cons_zero, Act.put, List.setIfInBounds_toArray, List.set_cons_zero, List.set_cons_succ])
      refine wpAnyH_take (i := 20) (v := ?_) rfl (by kernel_rfl) (by kernel_rfl) (by kernel_rfl) (fun _ _ _ h => h) (Or.inl ⟨by rfl, ?_⟩) (by assumption) ?_
      rotate_left
      · intro w hSw; (try dsimp only at hSw); go_simp; try with_reducible rfl
      (try simp only [List.getElem_toArray, List.getElem_cons_succ, List.getElem_cons_zero, Act.put, List.setIfInBounds_toArray, List.set_cons_zero, List.set_cons_succ])
      refine wpAnyH_take (i := 21) (v := ?_) rfl (by kernel_rfl) (by kernel_rfl) (by kernel_rfl) (fun _ _ _ h => h) (Or.inl ⟨by rfl, ?_⟩) (by assumption) ?_
      rotate_left
      · intro w hSw; (try dsimp only at hSw); go_simp; try with_reducible rfl
      (try simp only [List.getElem_toArray, List.getElem_cons_succ, List.getElem_cons_zero, Act.put, List.setIfInBounds_toArray, List.set_cons_zero, List.set_cons_succ])
      refine wpAnyH_take (i := 23) (v := ?_) rfl (by kernel_rfl) (by kernel_rfl) (by kernel_rfl) (fun _ _ _ h => h) (Or.inl ⟨by rfl, ?_⟩) (by assumption) ?_
      rotate_left
      · intro w hSw; (try dsimp only at hSw); go_simp; try with_reducible rfl
      (try simp only [List.getElem_toArray, List.getElem_cons_succ, List.getElem_cons_zero, Act.put, List.setIfInBounds_toArray, List.set_cons_zero, List.set_cons_succ])
      refine wpAnyH_take (i := 24) (v := ?_) rfl (by kernel_rfl) (by kernel_rfl) (by kernel_rfl) (fun _ _ _ h => h) (Or.inl ⟨by rfl, ?_⟩) (by assumption) ?_
      rotate_left
      · intro w hSw; (try dsimp only at hSw); go_simp; try with_reducible rfl
      (try simp only [List.getElem_toArray, List.getElem_cons_succ, List.getElem_cons_zero, Act.put, List.setIfInBounds_toArray, List.set_cons_zero, List.set_cons_succ])
      refine wpAnyH_ready (rs := [22]) (by kernel_rfl) (by simp) ?_
      refine AllReadyH.cons rfl (fun K hK => ?_) (AllReadyH.nil)
      · go_simp
        (go_at_call 31; ((with_reducible refine (HRDL.out _).mono ?_); rintro e' wz ⟨rfl, hb2⟩))
        refine hK.out _ _ ?_ (fun hHeld => ?_)
        · (try dsimp only); (first | assumption | exact HX.out.six | exact SrS.on (by assumption) hb2)
        clear hK K
        (try simp only [List.getElem_toArray, List.getElem_cons_succ, List.getElem_cons_zero, Act.put, List.setIfInBounds_toArray, List.set_cons_zero, List.set_cons_succ])
        refine wpAnyH_ready (rs := [25]) (by kernel_rfl) (by simp) ?_
        refine AllReadyH.cons rfl (fun K hK => ?_) (AllReadyH.nil)
        · go_simp
          (go_at_call 31; ((with_reducible refine (HRDT.out _).mono ?_); rintro e' wz ⟨rfl, hb2⟩))
          refine hK.out _ _ ?_ (fun hHeld => ?_)
          · (try dsimp only); (first | assumption | exact HX.out.six | exact SrS.on (by assumption) hb2)
          clear hK K
          (try simp only [List.getElem_toArray, List.getElem_cons_succ, List.getElem_cons_zero, Act.put, List.setIfInBounds_toArray, List.set_cons_zero, List.set_cons_succ])
          refine wpAnyH_take (i := 26) (v := ?_) rfl (by kernel_rfl) (by kernel_rfl) (by kernel_rfl) (fun _ _ _ h => h) (Or.inl ⟨by rfl, ?_⟩) (by assumption) ?_
          rotate_left
          · intro w hSw; (try dsimp only at hSw); go_simp; try with_reducible rfl
          (try simp only [List.getElem_toArray, List.getElem_cons_succ, List.getElem_cons_zero, Act.put, List.setIfInBounds_toArray, List.set_cons_zero, List.set_cons_succ])
          refine wpAnyH_take (i := 27) (v := ?_) rfl (by kernel_rfl) (by kernel_rfl) (by kernel_rfl) (fun _ _ _ h => h) (Or.inl ⟨by rfl, ?_⟩) (by assumption) ?_
          rotate_left
          · intro w hSw; (try dsimp only at hSw); go_simp; try with_reducible rfl
          (try simp only [List.getElem_toArray, List.getElem_cons_succ, List.getElem_cons_zero, Act.put, List.setIfInBounds_toArray, List.set_cons_zero, List.set_cons_succ])
          refine wpAnyH_take (i := 28) (v := ?_) rfl (by kernel_rfl) (by kernel_rfl) (by kernel_rfl) (fun _ _ _ h => h) (Or.inl ⟨by rfl, ?_⟩) (by assumption) ?_
          rotate_left
          · intro w hSw; (try dsimp only at hSw); go_simp; try with_reducible rfl
          (try simp only [List.getElem_toArray, List.getElem_cons_succ, List.getElem_cons_zero, Act.put, List.setIfInBounds_toArray, List.set_cons_zero, List.set_cons_succ])
          refine wpAnyH_take (i := 29) (v := ?_) rfl (by kernel_rfl) (by kernel_rfl) (by kernel_rfl) (fun _ _ _ h => h) (Or.inl ⟨by rfl, ?_⟩) (by assumption) ?_
          rotate_left
          · intro w hSw; (try dsimp only at hSw); go_simp; try with_reducible rfl
          (try simp only [List.getElem_toArray, List.getElem_cons_succ, List.getElem_cons_zero, Act.put, List.setIfInBounds_toArray, List.set_cons_zero, List.set_cons_succ])
          refine wpAnyH_take (i := 30) (v := ?_) rfl (by kernel_rfl) (by kernel_rfl) (by kernel_rfl) (fun _ _ _ h => h) (Or.inl ⟨by rfl, ?_⟩) (by assumption) ?_
          rotate_left
          · intro w hSw; (try dsimp only at hSw); go_simp; try with_reducible rfl
          (try simp only [List.getElem_toArray, List.getElem_cons_succ, List.getElem_cons_zero, Act.put, List.setIfInBounds_toArray, List.set_cons_zero, List.set_cons_succ])
          refine wpAnyH_take (i := 31) (v := ?_) rfl (by kernel_rfl) (by kernel_rfl) (by kernel_rfl) (fun _ _ _ h => h) (Or.inl ⟨by rfl, ?_⟩) (by assumption) ?_
          rotate_left
          · intro w hSw; (try dsimp only at hSw); go_simp; try with_reducible rfl
          (try simp only [List.getElem_toArray, List.getElem_cons_succ, List.getElem_cons_zero, Act.put, List.setIfInBounds_toArray, List.set_cons_zero, List.set_cons_succ])
          refine wpAnyH_ready (rs := [32]) (by kernel_rfl) (by simp) ?_
          refine AllReadyH.cons rfl (fun K hK => ?_) (AllReadyH.nil)
          · go_simp
            (go_at_call 33; ((with_reducible refine (HTU.out _ hHeld.2.i0.sl).mono ?_); rintro e' wz ⟨rfl, hb2⟩))
            refine hK.out _ _ ?_ (fun hHeld => ?_)
            · (try dsimp only); (first | assumption | exact HX.out.six | exact SrS.on (by assumption) hb2)
            clear hK K
            (try simp only [List.getElem_toArray, List.getElem_cons_succ, List.getElem_cons_zero, Act.put, List.setIfInBounds_toArray, List.set_cons_zero, List.set_cons_succ])
            refine wpAnyH_take (i := 33) (v := ?_) rfl (by kernel_rfl) (by kernel_rfl) (by kernel_rfl) (fun _ _ _ h => h) (Or.inl ⟨by rfl, ?_⟩) (by assumption) ?_
            rotate_left
            · intro w hSw; (try dsimp only at hSw); go_simp; try with_reducible rfl
            (try simp only [List.getElem_toArray, List.getElem_cons_succ, List.getElem_cons_zero, Act.put, List.setIfInBounds_toArray, List.set_cons_zero, List.set_cons_succ])
            refine wpAnyH_take (i := 34) (v := ?_) rfl (by kernel_rfl) (by kernel_rfl) (by kernel_rfl) (fun _ _ _ h => h) (Or.inl ⟨by rfl, ?_⟩) (by assumption) ?_
            rotate_left
            · intro w hSw; (try dsimp only at hSw); go_simp; try with_reducible rfl
            (try simp only [List.getElem_toArray, List.getElem_cons_succ, List.getElem_cons_zero, Act.put, List.setIfInBounds_toArray, List.set_cons_zero, List.set_cons_succ])
            refine wpAnyH_take (i := 35) (v := ?_) rfl (by kernel_rfl) (by kernel_rfl) (by kernel_rfl) (fun _ _ _ h => h) (Or.inl ⟨by rfl, ?_⟩) (by assumption) ?_
            rotate_left
            · intro w hSw; (try dsimp only at hSw); go_simp; try with_reducible rfl
            (try simp only [List.getElem_toArray, List.getElem_cons_succ, List.getElem_cons_zero, Act.put, List.setIfInBounds_toArray, List.set_cons_zero, List.set_cons_succ])
            refine wpAnyH_done (by kernel_rfl) ?_ _
            refine NoPanic.normal ?_
            have hbl := hHeld.2.below
            go_wp2_with fail
            go_ret
            exact ⟨by simp; omega, hbl⟩
end Go.Proofs.YtokljdaofjgihaaGreatDoor
